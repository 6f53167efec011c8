"""The tests of groupclocks."""
