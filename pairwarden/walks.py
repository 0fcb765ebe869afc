"""Walks: how one more piece can be dealt while the dealt ones stay dealt."""

from pairwarden.numbering import are_different
from pairwarden.pool import held_pairs, holds_pair, pair_room


def is_walk(pool, dealing, walk):
    """Tell whether the list of steps is a walk for the pool and the dealing."""
    if not walk or not are_different([piece for piece, _ in walk], pool.pieces):
        return False
    # The pair of the step before, which the piece of the next step has to leave.
    left = None
    for piece, pair in walk:
        if dealing[piece] != left or pair == left:
            return False
        if not holds_pair(pool, piece, pair) or pair_room(pool, pair) < 1:
            return False
        left = pair
    return dealing.count(left) < pair_room(pool, left)


def find_walk(pool, dealing, *, pieces=None):
    """Return a walk that begins with one of the pieces, or None if there is none."""
    firsts = list(range(pool.pieces)) if pieces is None else pieces
    waiting = [piece for piece in firsts if dealing[piece] is None]
    seated = _pieces_by_pair(dealing)
    # For each pair that was reached, the first piece that can take it.
    takers = {}
    at = 0
    while at < len(waiting):
        piece = waiting[at]
        for pair in held_pairs(pool, piece):
            if pair not in takers:
                takers[pair] = piece
                leaving = seated.get(pair, [])
                if len(leaving) < pair_room(pool, pair):
                    return _walk_to(dealing, takers, pair)
                waiting.extend(leaving)
        at += 1
    return None


def take_walk(dealing, walk):
    """Return the dealing after the walk."""
    after = list(dealing)
    for piece, pair in walk:
        after[piece] = pair
    return after


def _pieces_by_pair(dealing):
    """Return a dict from each pair of the dealing to the pieces that are dealt to it."""
    seated = {}
    for piece, pair in enumerate(dealing):
        if pair is not None:
            seated.setdefault(pair, []).append(piece)
    return seated


def _walk_to(dealing, takers, pair):
    """Return the walk whose last step takes the pair."""
    steps = []
    while pair is not None:
        piece = takers[pair]
        steps.append((piece, pair))
        pair = dealing[piece]
    return steps[::-1]
