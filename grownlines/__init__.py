"""Lines that grow step by step on two grids, each decided for all orders."""
