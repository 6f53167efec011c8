"""Blocks behind which something is as before them."""


class Trial:
    """A block behind which its owner has the state again that it had before. States never change."""

    def __init__(self, owner):
        self._owner = owner
        self._saved = None

    def __enter__(self):
        self._saved = Saved(self._owner._current, self._saved)
        return self._owner

    def __exit__(self, kind, value, trace):
        owner = self._owner
        saved = self._saved
        owner._current = saved.held
        self._saved = saved.outer
        return False


class Saved:
    """A state, and what was saved for a block around, if one trial is used for both."""

    def __init__(self, held, outer):
        self.held = held
        self.outer = outer
