"""The fewest sends and copies with which a safe pool stays safe."""

from pairwarden.dealer import first_dealing, greatest_dealing
from pairwarden.deeds import apply_deed
from pairwarden.errors import Unsafe
from pairwarden.lots import least_lot
from pairwarden.pool import Pool, pieces_on
from pairwarden.rounds import after_loss, told_sends
from pairwarden.walks import find_walk


def least_sends(pool, seat):
    """Return an allowed list with the fewest sends that keep the pool safe, or raise Unsafe."""
    full = full_dealing(pool)
    start = [None if seat in pair else pair for pair in full]
    # What is dealt here needs no send. The others take their pairs with the seat, which nothing here has.
    dealing = greatest_dealing(after_loss(pool, seat), start=start)
    return [(piece, sender) for piece, sender in told_sends(pool, full, seat) if dealing[piece] is None]


def needed_pieces(pool, seat):
    """Return the ascending list of the pieces that must be sent to keep the pool safe, or raise Unsafe."""
    full = full_dealing(pool)
    # A piece need not be sent if some full dealing gives it a pair without the seat.
    return [piece for piece in pieces_on(pool, seat) if not _is_droppable(pool, full, piece, seat)]


def droppable(pool):
    """Return the ascending list of the copies `(piece, seat)` of which each may be dropped, or raise Unsafe."""
    full = full_dealing(pool)
    copies = [(piece, seat) for piece, row in enumerate(pool.holders) for seat in row]
    return [(piece, seat) for piece, seat in copies if _is_droppable(pool, full, piece, seat)]


def thinned(pool):
    """Return the pool in which each piece has only its pair of the first dealing, or raise Unsafe."""
    full_dealing(pool)
    return Pool(pool.caps, first_dealing(pool))


def full_dealing(pool):
    """Return a full dealing, or raise Unsafe."""
    dealing = greatest_dealing(pool)
    if None in dealing:
        raise Unsafe(least_lot(pool))
    return dealing


def _is_droppable(pool, full, piece, seat):
    """Tell whether the pool without this copy is safe. A full dealing of the pool with it is given."""
    others = [None if other == piece else pair for other, pair in enumerate(full)]
    return find_walk(apply_deed(pool, ("take", seat, (piece,))), others) is not None
