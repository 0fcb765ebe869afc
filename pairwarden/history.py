"""A pool with the deeds that were done to it, to undo and redo."""

from pairwarden.deeds import apply_deed
from pairwarden.errors import NothingToRedo, NothingToUndo


class History:
    """Keeps a pool and the deeds done to it."""

    def __init__(self, pool):
        self.pool = pool
        self.past = 0
        self.future = 0
        self._done = []
        self._undone = []
        # The pool before each deed that is done.
        self._earlier = []

    def do(self, deed):
        """Do a deed, and forget the undone ones."""
        self._do_deed(deed)
        self._undone.clear()
        self._count()

    def undo(self):
        """Take back the last deed that is done."""
        if not self._done:
            raise NothingToUndo()
        self._undone.append(self._done.pop())
        self.pool = self._earlier.pop()
        self._count()

    def redo(self):
        """Do the last undone deed again."""
        if not self._undone:
            raise NothingToRedo()
        self._do_deed(self._undone.pop())
        self._count()

    def __iter__(self):
        return iter(self._done)

    def _do_deed(self, deed):
        """Apply a deed and note it as done; a deed that is invalid changes nothing."""
        after = apply_deed(self.pool, deed)
        self._earlier.append(self.pool)
        self._done.append(deed)
        self.pool = after

    def _count(self):
        """Set the numbers of deeds that can be undone and redone."""
        self.past = len(self._done)
        self.future = len(self._undone)
