"""A greatest dealing that is kept up while the pool changes."""

from pairwarden.dealer import greatest_dealing
from pairwarden.deeds import apply_deed
from pairwarden.pool import holds_pair, pair_room


class KeptDealing:
    """Keeps a pool and a greatest dealing of it."""

    def __init__(self, pool):
        self.pool = pool
        self._pairs = greatest_dealing(pool)

    def dealing(self):
        """Return the dealing."""
        return list(self._pairs)

    def do(self, deed):
        """Do a deed, and make the dealing a greatest one again."""
        pool = apply_deed(self.pool, deed)
        start = without_wrong(pool, _renumbered(self._pairs, deed))
        self._pairs = greatest_dealing(pool, start=start)
        self.pool = pool


def _renumbered(pairs, deed):
    """Return the pairs in the order that the pieces have after the deed."""
    match deed:
        case ("put", piece, _):
            return pairs[:piece] + [None] + pairs[piece:]
        case ("remove", piece):
            return pairs[:piece] + pairs[piece + 1:]
    return pairs


def without_wrong(pool, pairs):
    """Return the dealing of the pool with those pairs that their pieces can still have."""
    dealing = []
    for piece, pair in enumerate(pairs):
        if pair is not None and holds_pair(pool, piece, pair) and dealing.count(pair) < pair_room(pool, pair):
            dealing.append(pair)
        else:
            dealing.append(None)
    return dealing
