"""Nets of pieces that meet by their chief hooks, in any order."""
