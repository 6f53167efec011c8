"""A project: a system, and claims about it that stay true."""
