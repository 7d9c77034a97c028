"""Nests of loops over arrays, decided for all sizes."""
