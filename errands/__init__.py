"""Errands: what must be done, and what can't be."""
