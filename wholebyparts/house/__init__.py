"""A desk, at which a word over a stock is changed and asked."""
