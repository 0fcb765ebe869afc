"""Answers for small pools that are found by looking at all dealings and all lots."""

import itertools

from pairwarden.pool import Pool


def pairs_of(pool, piece):
    """The pairs that a piece holds, those without room included."""
    return list(itertools.combinations(pool.holders[piece], 2))


def room_of(pool, pair):
    return min(pool.caps[pair[0]], pool.caps[pair[1]])


def all_dealings(pool):
    """All dealings of a small pool."""
    choices = [[pair for pair in pairs_of(pool, piece) if room_of(pool, pair)] + [None] for piece in range(pool.pieces)]
    dealings = []
    for row in itertools.product(*choices):
        if all(row.count(pair) <= room_of(pool, pair) for pair in set(row) if pair is not None):
            dealings.append(list(row))
    return dealings


def dealt(dealing):
    """The pieces that a dealing deals."""
    return frozenset(piece for piece, pair in enumerate(dealing) if pair is not None)


def dealable_sets(pool):
    """All sets of pieces that can be dealt."""
    return {dealt(dealing) for dealing in all_dealings(pool)}


def count_most(pool):
    """The number of pieces that a greatest dealing deals."""
    return max(len(pieces) for pieces in dealable_sets(pool))


def all_lots(pool):
    """All lots of a small pool."""
    return [
        list(lot) for many in range(pool.pieces + 1) for lot in itertools.combinations(range(pool.pieces), many)
    ]


def count_pairs(pool, lot):
    """The held pairs of a lot."""
    return [
        pair for pair in itertools.combinations(range(pool.seats), 2)
        if room_of(pool, pair) >= 1 and any(set(pair) <= set(pool.holders[piece]) for piece in lot)
    ]


def count_lack(pool, lot):
    """The lack of a lot."""
    return len(lot) - sum(room_of(pool, pair) for pair in count_pairs(pool, lot))


def greatest_lack(pool):
    """The greatest lack of all lots."""
    return max(count_lack(pool, lot) for lot in all_lots(pool))


def order(dealing):
    """What dealings are compared by: pairs by their order, and None behind all of them."""
    return [(pair is None, pair or ()) for pair in dealing]


def all_sends(pool, seat):
    """All lists of sends that are allowed in the round of a seat, each with its sends in one order."""
    choices = [
        [None] + [(piece, sender) for sender in row if sender != seat] if seat in row else [None]
        for piece, row in enumerate(pool.holders)
    ]
    rows = []
    for row in itertools.product(*choices):
        senders = [send[1] for send in row if send]
        if all(senders.count(sender) <= pool.caps[sender] for sender in senders):
            rows.append([send for send in row if send])
    return rows


def holders_after(pool, seat, pieces):
    """The holders after a round in which these pieces are sent to the seat."""
    return [
        [other for other in row if other != seat or piece in pieces] for piece, row in enumerate(pool.holders)
    ]


def is_full(pool):
    """Whether some dealing deals all pieces, found piece by piece."""
    def deals_from(piece, given):
        if piece == pool.pieces:
            return True
        return any(
            deals_from(piece + 1, given + [pair]) for pair in pairs_of(pool, piece)
            if given.count(pair) < room_of(pool, pair)
        )
    return deals_from(0, [])


def sends_that_keep(pool, seat):
    """All allowed lists of sends after which the pool is safe."""
    return [
        sends for sends in all_sends(pool, seat)
        if is_full(Pool(pool.caps, holders_after(pool, seat, [piece for piece, _ in sends])))
    ]
