"""Stands, and what they decide of lines of all orders."""
