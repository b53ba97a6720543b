"""Sumdigits: schemes of cells for sums over columns of all sizes."""
