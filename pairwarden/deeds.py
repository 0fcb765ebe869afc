"""Deeds: the changes of a pool, their inverses, and the loss of a seat."""

from pairwarden.errors import InvalidDeed
from pairwarden.numbering import are_different
from pairwarden.pool import Pool, pieces_on


def apply_deed(pool, deed):
    """Return the pool after the deed, or raise InvalidDeed."""
    if not _is_valid(pool, deed):
        raise InvalidDeed(deed)
    return Pool(_caps_after(pool, deed), _holders_after(pool, deed))


def inverse_deed(pool, deed):
    """Return the deed that turns the pool after the deed back into this one, or raise InvalidDeed."""
    if not _is_valid(pool, deed):
        raise InvalidDeed(deed)
    match deed:
        case ("seat", _):
            return ("retire",)
        case ("retire",):
            return ("seat", pool.caps[-1])
        case ("cap", seat, _):
            return ("cap", seat, pool.caps[seat])
        case ("put", piece, _):
            return ("remove", piece)
        case ("remove", piece):
            return ("put", piece, pool.holders[piece])
        case ("give", seat, pieces):
            return ("take", seat, tuple(sorted(pieces)))
        case ("take", seat, pieces):
            return ("give", seat, tuple(sorted(pieces)))


def loss_deed(pool, seat):
    """Return the deed that takes everything that the seat holds."""
    return ("take", seat, tuple(pieces_on(pool, seat)))


def _is_valid(pool, deed):
    """Tell whether the deed can be done to the pool."""
    match deed:
        case ("seat", cap):
            return cap >= 0
        case ("retire",):
            return pool.seats > 1 and not pieces_on(pool, pool.seats - 1)
        case ("cap", seat, cap):
            return 0 <= seat < pool.seats and cap >= 0
        case ("put", piece, holders):
            return 0 <= piece <= pool.pieces and are_different(holders, pool.seats)
        case ("remove", piece):
            return 0 <= piece < pool.pieces
        case ("give", seat, pieces):
            return _can_change(pool, seat, pieces) and _count_held(pool, seat, pieces) == 0
        case ("take", seat, pieces):
            return _can_change(pool, seat, pieces) and _count_held(pool, seat, pieces) == len(pieces)
    return False


def _caps_after(pool, deed):
    """Return the caps after a valid deed."""
    match deed:
        case ("seat", cap):
            return pool.caps + (cap,)
        case ("retire",):
            return pool.caps[:-1]
        case ("cap", seat, cap):
            return pool.caps[:seat] + (cap,) + pool.caps[seat + 1:]
    return pool.caps


def _holders_after(pool, deed):
    """Return the holders after a valid deed."""
    match deed:
        case ("put", piece, holders):
            return pool.holders[:piece] + (holders,) + pool.holders[piece:]
        case ("remove", piece):
            return pool.holders[:piece] + pool.holders[piece + 1:]
        case ("give", seat, pieces):
            return _holders_with(pool, seat, pieces)
        case ("take", seat, pieces):
            return _holders_without(pool, seat, pieces)
    return pool.holders


def _can_change(pool, seat, pieces):
    """Tell whether the seat exists, and the pieces too, none of them twice."""
    return 0 <= seat < pool.seats and are_different(pieces, pool.pieces)


def _count_held(pool, seat, pieces):
    """Return how many of the pieces the seat holds."""
    return len([piece for piece in pieces if seat in pool.holders[piece]])


def _holders_with(pool, seat, pieces):
    """Return the holders with the seat added at each of the pieces."""
    holders = list(pool.holders)
    for piece in pieces:
        holders[piece] = pool.holders[piece] + (seat,)
    return holders


def _holders_without(pool, seat, pieces):
    """Return the holders with the seat removed from each of the pieces."""
    holders = list(pool.holders)
    for piece in pieces:
        holders[piece] = tuple([other for other in pool.holders[piece] if other != seat])
    return holders
