"""Texts of schemes, stands, addresses and papers, pictures of lines, and a shell over a bench."""
