"""Integers, points, grids and rules."""
