"""Readers: finite automata over the parts."""
