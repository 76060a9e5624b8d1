"""Sortforge: programs of compares that put rows in order."""
