"""Words and systems, on which all else is built."""
