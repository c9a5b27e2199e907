"""Texts of structures, readers and formulas."""
