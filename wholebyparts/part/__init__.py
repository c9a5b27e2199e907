"""Structures, the parts of which wholes are made."""
