"""Schemes, the lines that grow from them, and places in these lines."""
