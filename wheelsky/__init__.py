"""Wheelsky: a sky of even cycles and the works that show it."""
