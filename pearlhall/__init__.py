"""Pearlhall: rows of pearls, closed to rings."""
