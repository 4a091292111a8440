"""Visits of lines: their kinds, those at a point, and those that meet."""
