"""Kinds of rows, formulas that part them, and games."""
