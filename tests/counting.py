"""Answers for small pools that are found by looking at all dealings and all lots."""

import itertools


def pairs_of(pool, piece):
    """The pairs that a piece holds, those without room included."""
    return list(itertools.combinations(pool.holders[piece], 2))


def room_of(pool, pair):
    return min(pool.caps[pair[0]], pool.caps[pair[1]])


def all_dealings(pool):
    """All dealings of a small pool."""
    choices = [[pair for pair in pairs_of(pool, piece) if room_of(pool, pair)] + [None] for piece in range(pool.pieces)]
    dealings = []
    for row in itertools.product(*choices):
        if all(row.count(pair) <= room_of(pool, pair) for pair in set(row) if pair is not None):
            dealings.append(list(row))
    return dealings


def dealt(dealing):
    """The pieces that a dealing deals."""
    return frozenset(piece for piece, pair in enumerate(dealing) if pair is not None)


def dealable_sets(pool):
    """All sets of pieces that can be dealt."""
    return {dealt(dealing) for dealing in all_dealings(pool)}


def count_most(pool):
    """The number of pieces that a greatest dealing deals."""
    return max(len(pieces) for pieces in dealable_sets(pool))


def all_lots(pool):
    """All lots of a small pool."""
    return [
        list(lot) for many in range(pool.pieces + 1) for lot in itertools.combinations(range(pool.pieces), many)
    ]


def count_pairs(pool, lot):
    """The held pairs of a lot."""
    return [
        pair for pair in itertools.combinations(range(pool.seats), 2)
        if room_of(pool, pair) >= 1 and any(set(pair) <= set(pool.holders[piece]) for piece in lot)
    ]


def count_lack(pool, lot):
    """The lack of a lot."""
    return len(lot) - sum(room_of(pool, pair) for pair in count_pairs(pool, lot))


def greatest_lack(pool):
    """The greatest lack of all lots."""
    return max(count_lack(pool, lot) for lot in all_lots(pool))


def order(dealing):
    """What dealings are compared by: pairs by their order, and None behind all of them."""
    return [(pair is None, pair or ()) for pair in dealing]
