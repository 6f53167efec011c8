"""Clocks for groups, and watched runs."""
