"""Counters that tell what was before what, for systems with any number of like participants."""
