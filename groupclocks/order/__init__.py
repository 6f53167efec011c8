"""Which actions are ordered, and their groups."""
