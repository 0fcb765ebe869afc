"""Pools: seats with caps, pieces with holders, and the pairs that pieces hold."""

from pairwarden.errors import InvalidPool
from pairwarden.numbering import are_different


class Pool:
    """The caps of the seats and the holders of the pieces; it never changes."""

    def __init__(self, caps, holders):
        if len(caps) == 0 or min(caps) < 0:
            raise InvalidPool(None)
        for piece, row in enumerate(holders):
            if not are_different(row, len(caps)):
                raise InvalidPool(piece)
        self.caps = tuple(caps)
        self.holders = tuple([tuple(sorted(row)) for row in holders])
        self.seats = len(self.caps)
        self.pieces = len(self.holders)


def pair_room(pool, pair):
    """Return how many pieces the pair can have at most."""
    first, second = pair
    return min(pool.caps[first], pool.caps[second])


def holds_pair(pool, piece, pair):
    """Tell whether these two numbers are a pair of seats that the piece holds."""
    first, second = pair
    holders = pool.holders[piece]
    return first < second and first in holders and second in holders


def held_pairs(pool, piece):
    """Return the ascending list of the pairs with room that the piece holds."""
    # Seats without a cap leave no room in any pair.
    seats = [seat for seat in pool.holders[piece] if pool.caps[seat] > 0]
    return [(first, second) for at, first in enumerate(seats) for second in seats[at + 1:]]
