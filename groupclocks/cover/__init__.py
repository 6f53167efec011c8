"""Patterns, and what is reachable."""
