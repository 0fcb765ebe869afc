"""Checks of what is handed over: dealings, lots, and a lot that shows a dealing to be greatest."""

from pairwarden.numbering import are_ascending
from pairwarden.pool import held_pairs, holds_pair, pair_room


def is_dealing(pool, dealing):
    """Tell whether the list is a dealing of the pool."""
    if len(dealing) != pool.pieces:
        return False
    given = {}
    for piece, pair in enumerate(dealing):
        if pair is not None:
            if not holds_pair(pool, piece, pair):
                return False
            given[pair] = given.get(pair, 0) + 1
    return all([count <= pair_room(pool, pair) for pair, count in given.items()])


def is_lot(pool, lot):
    """Tell whether the list is a lot of the pool."""
    return are_ascending(lot, pool.pieces)


def lot_pairs(pool, lot):
    """Return the ascending list of the held pairs of a lot."""
    return sorted({pair for piece in lot for pair in held_pairs(pool, piece)})


def lot_lack(pool, lot):
    """Return how many pieces of the lot have no place, at the least."""
    return len(lot) - sum([pair_room(pool, pair) for pair in lot_pairs(pool, lot)])


def is_greatest(pool, dealing, lot):
    """Tell whether the lot shows that the dealing is a greatest one."""
    if not is_dealing(pool, dealing) or not is_lot(pool, lot):
        return False
    return dealing.count(None) == lot_lack(pool, lot)
