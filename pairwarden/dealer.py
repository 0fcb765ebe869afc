"""Greatest dealings, and what they say about a pool."""

from pairwarden.errors import InvalidDealing
from pairwarden.papers import is_dealing
from pairwarden.pool import Pool, held_pairs, pair_room
from pairwarden.walks import find_walk, take_walk


def greatest_dealing(pool, *, start=None):
    """Return a greatest dealing that deals every piece that the start deals."""
    dealing = [None] * pool.pieces if start is None else list(start)
    if not is_dealing(pool, dealing):
        raise InvalidDealing()
    walk = find_walk(pool, dealing)
    while walk is not None:
        dealing = take_walk(dealing, walk)
        walk = find_walk(pool, dealing)
    return dealing


def most_dealt(pool):
    """Return the number of pieces that a greatest dealing deals."""
    return pool.pieces - greatest_dealing(pool).count(None)


def is_safe(pool):
    """Tell whether all pieces of the pool can be dealt."""
    return most_dealt(pool) == pool.pieces


def first_dealing(pool):
    """Return the greatest dealing that gives the first pieces the first pairs."""
    dealing = greatest_dealing(pool)
    for piece in range(pool.pieces):
        dealing = _with_first_pair(pool, dealing, piece)
        # From here on the piece can have this pair alone, or none.
        pool = _with_holders(pool, piece, dealing[piece] or ())
    return dealing


def _with_first_pair(pool, dealing, piece):
    """Return a greatest dealing in which the piece has its first possible pair.

    In this pool each piece before it holds nothing but the pair that it has to keep.
    """
    for pair in held_pairs(pool, piece):
        if pair == dealing[piece]:
            return dealing
        changed = _with_pair(pool, dealing, piece, pair)
        if changed is not None:
            return changed
    return dealing


def _with_pair(pool, dealing, piece, pair):
    """Return a greatest dealing in which the piece has this pair, or None if there is none."""
    changed = list(dealing)
    changed[piece] = pair
    if changed.count(pair) > pair_room(pool, pair):
        later = [other for other in range(piece + 1, pool.pieces) if changed[other] == pair]
        if not later:
            return None
        # Which later piece makes way does not matter: if there is such a dealing, a walk is found from each.
        changed[later[0]] = None
    changed = greatest_dealing(_with_holders(pool, piece, pair), start=changed)
    if changed.count(None) > dealing.count(None):
        return None
    return changed


def _with_holders(pool, piece, holders):
    """Return the pool in which the piece has these holders."""
    return Pool(pool.caps, pool.holders[:piece] + (holders,) + pool.holders[piece + 1:])
