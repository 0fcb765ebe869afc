"""The lots of greatest lack, and the pairs that could still take a piece."""

from pairwarden.dealer import greatest_dealing
from pairwarden.flows import reach
from pairwarden.pool import held_pairs, holds_pair, pair_room, pairs_with_room


def least_lot(pool):
    """Return the lot of greatest lack that all others contain."""
    links = [held_pairs(pool, piece) for piece in range(pool.pieces)]
    amounts = [{} if pair is None else {pair: 1} for pair in greatest_dealing(pool)]
    # A lot of greatest lack has all undealt pieces, and all pieces that are dealt to one of its held pairs.
    _, leaves = reach([1] * pool.pieces, links, amounts)
    return sorted(leaves)


def greatest_lot(pool):
    """Return the lot of greatest lack that contains all others."""
    pairs = open_pairs(pool)
    return [piece for piece in range(pool.pieces) if not _holds_one(pool, piece, pairs)]


def open_pairs(pool):
    """Return the ascending list of the pairs with room that no piece of the greatest lot holds."""
    dealing = greatest_dealing(pool)
    roomy = pairs_with_room(pool, list(range(pool.seats)))
    pairs = [pair for pair in roomy if dealing.count(pair) < pair_room(pool, pair)]
    at = 0
    while at < len(pairs):
        # A piece that can go to an open pair opens the pair that it is dealt to. An undealt one cannot go to any.
        for piece, pair in enumerate(dealing):
            if pair not in pairs and holds_pair(pool, piece, pairs[at]):
                pairs.append(pair)
        at += 1
    return sorted(pairs)


def may_put(pool, holders):
    """Tell whether one more piece with these holders could be dealt, too."""
    return any([first in holders and second in holders for first, second in open_pairs(pool)])


def _holds_one(pool, piece, pairs):
    """Tell whether the piece holds one of the pairs."""
    return any([holds_pair(pool, piece, pair) for pair in pairs])
