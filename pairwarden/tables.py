"""Rebuild tables, which say once and for all what is sent."""

from pairwarden.errors import InvalidTable
from pairwarden.pool import dead_pieces
from pairwarden.rounds import told_sends, with_sent


def check_table(pool, table):
    """Raise InvalidTable if the table does not fit the pool."""
    if len(table) != pool.seats:
        raise InvalidTable(None, None)
    for seat, entries in enumerate(table):
        at = _first_wrong(pool, seat, entries)
        if at is not None:
            raise InvalidTable(seat, at)


def play_table(pool, table, seat):
    """Return the pool after a round with the sends of the table, or raise InvalidTable."""
    check_table(pool, table)
    return _after_table(pool, table, seat)


def table_of(pool, dealing):
    """Return the table that restores the dealing."""
    return [told_sends(pool, dealing, seat) for seat in range(pool.seats)]


def core(pool, table):
    """Return the pool that is left when no further loss changes anything, or raise InvalidTable."""
    check_table(pool, table)
    before = ()
    while pool.holders != before:
        before = pool.holders
        for seat in range(pool.seats):
            pool = _after_table(pool, table, seat)
    return pool


def is_right(pool, table):
    """Tell whether no row of losses ever makes a piece dead, or raise InvalidTable."""
    return not dead_pieces(core(pool, table))


def table_row(pool, table):
    """Return the shortest row of losses, seat by seat and again, that makes a piece dead, or None."""
    if is_right(pool, table):
        return None
    row = []
    while not dead_pieces(pool):
        seat = len(row) % pool.seats
        pool = _after_table(pool, table, seat)
        row.append(seat)
    return row


def _first_wrong(pool, seat, entries):
    """Return the index of the first entry in the list of a seat that does not fit, or None."""
    counts = {}
    for at, (piece, sender) in enumerate(entries):
        if not 0 <= piece < pool.pieces or not 0 <= sender < pool.seats or sender == seat:
            return at
        counts[sender] = counts.get(sender, 0) + 1
        if counts[sender] > pool.caps[sender]:
            return at
    return None


def _after_table(pool, table, seat):
    """Return the pool after a round with the sends of a table that fits."""
    # Several entries may send the same piece.
    sent = {piece for piece, sender in table[seat] if _is_sent(pool, seat, piece, sender)}
    return with_sent(pool, seat, sorted(sent))


def _is_sent(pool, seat, piece, sender):
    """Tell whether an entry does something in the round: the seat held the piece, and the sender holds it."""
    return seat in pool.holders[piece] and sender in pool.holders[piece]
