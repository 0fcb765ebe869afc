"""The lot of greatest worth that can be dealt."""

from pairwarden.walks import find_walk, take_walk


def best_lot(pool, worths):
    """Return the lot that is collected in the order of falling worth."""
    dealing = [None] * pool.pieces
    for piece in sorted(range(pool.pieces), key=lambda other: (-worths[other], other)):
        # The dealt pieces are the lot so far, so a walk deals the lot together with this piece.
        walk = find_walk(pool, dealing, pieces=[piece])
        if walk is not None:
            dealing = take_walk(dealing, walk)
    return [piece for piece, pair in enumerate(dealing) if pair is not None]
