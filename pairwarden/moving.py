"""Moving a safe pool to another safe one, copy by copy."""

from pairwarden.errors import InvalidTarget
from pairwarden.sending import full_dealing


def moves(pool, target):
    """Return the deeds of one copy each that turn the pool into the target, or raise InvalidTarget or Unsafe."""
    if pool.caps != target.caps or pool.pieces != target.pieces:
        raise InvalidTarget()
    full_dealing(pool)
    full_dealing(target)
    gives = [("give", seat, (piece,)) for piece, seat in _copies_beside(target, pool)]
    takes = [("take", seat, (piece,)) for piece, seat in _copies_beside(pool, target)]
    # All that the pool holds stays until the target is held whole, so the pool stays safe.
    return gives + takes


def next_move(pool, target):
    """Return the first deed that turns the pool into the target, or None, or raise InvalidTarget or Unsafe."""
    deeds = moves(pool, target)
    return deeds[0] if deeds else None


def _copies_beside(pool, other):
    """Return the ascending list of the copies `(piece, seat)` of the pool that the other pool does not have."""
    copies = [(piece, seat) for piece, row in enumerate(pool.holders) for seat in row]
    return [(piece, seat) for piece, seat in copies if seat not in other.holders[piece]]
