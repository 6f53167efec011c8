"""Runs of systems."""
