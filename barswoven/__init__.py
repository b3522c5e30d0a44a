"""Barswoven: rows of spaces, their bars, and weavings."""
