"""Formulas, and where they hold."""
