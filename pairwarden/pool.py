"""Pools: seats with caps, pieces with holders, and the pairs that pieces hold."""

from pairwarden.errors import InvalidPool
from pairwarden.numbering import are_different


class Pool:
    """The caps of the seats and the holders of the pieces; it never changes."""

    def __init__(self, caps, holders):
        if len(caps) == 0 or min(caps) < 0:
            raise InvalidPool(None)
        self.caps = tuple(caps)
        self.holders = ordered_holders(holders, len(caps))
        self.seats = len(self.caps)
        self.pieces = len(self.holders)


def ordered_holders(holders, seats):
    """Return the holders of each piece in ascending order, or raise InvalidPool with the first wrong piece."""
    for piece, row in enumerate(holders):
        if not are_different(row, seats):
            raise InvalidPool(piece)
    return tuple([tuple(sorted(row)) for row in holders])


def pieces_on(pool, seat):
    """Return the ascending list of the pieces that the seat holds."""
    return [piece for piece, row in enumerate(pool.holders) if seat in row]


def dead_pieces(pool):
    """Return the ascending list of the pieces without holders."""
    return [piece for piece, row in enumerate(pool.holders) if not row]


def pair_room(pool, pair):
    """Return how many pieces the pair can have at most."""
    first, second = pair
    return min(pool.caps[first], pool.caps[second])


def holds_pair(pool, piece, pair):
    """Tell whether these two numbers are a pair of seats that the piece holds."""
    first, second = pair
    holders = pool.holders[piece]
    return first < second and first in holders and second in holders


def held_pairs(pool, piece):
    """Return the ascending list of the pairs with room that the piece holds."""
    return pairs_with_room(pool, pool.holders[piece])


def pairs_with_room(pool, seats):
    """Return the ascending list of the pairs with room of these seats, which ascend."""
    # Seats without a cap leave no room in any pair.
    roomy = [seat for seat in seats if pool.caps[seat] > 0]
    return [(first, second) for at, first in enumerate(roomy) for second in roomy[at + 1:]]
