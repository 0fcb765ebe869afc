"""The foe: in which order the seats lose their copies, and what is left then."""

from pairwarden.rounds import after_round


def killing_row(pool):
    """Return the list of all seats in the order of falling caps."""
    return sorted(range(pool.seats), key=lambda seat: (-pool.caps[seat], seat))


def lot_row(pool, lot):
    """Return the list of the seats that hold a piece of the lot, in the order of falling caps."""
    return [seat for seat in killing_row(pool) if any([seat in pool.holders[piece] for piece in lot])]


def first_sends(pool, rounds):
    """Return the pair of the first send of each piece, None where it is not sent, or raise InvalidSends."""
    pairs = [None] * pool.pieces
    for seat, sends in rounds:
        pool = after_round(pool, seat, sends)
        for piece, sender in sends:
            if pairs[piece] is None:
                pairs[piece] = (min(seat, sender), max(seat, sender))
    return pairs
