"""Very many pieces, described by kinds of pieces with the same holders."""

from pairwarden.errors import InvalidPool
from pairwarden.flows import greatest_amounts, reach
from pairwarden.numbering import are_different
from pairwarden.pool import Pool, held_pairs, pair_room, pairs_with_room


def spread_kinds(caps, kinds):
    """Return a spread with the greatest sum of all amounts."""
    amounts = _amounts(_pool_of_ones(caps, kinds), kinds)
    return [[(pair, row[pair]) for pair in sorted(row)] for row in amounts]


def least_kinds(caps, kinds):
    """Return the ascending list of the kinds whose pieces are in the least lot of greatest lack."""
    pool = _pool_of_ones(caps, kinds)
    _, leaves = reach(_counts(kinds), _links(pool), _amounts(pool, kinds))
    return sorted(leaves)


def pool_of_kinds(caps, kinds):
    """Return the pool in which all pieces are written out, kind by kind."""
    _pool_of_ones(caps, kinds)
    return Pool(caps, [holders for holders, count in kinds for _ in range(count)])


def _pool_of_ones(caps, kinds):
    """Return the pool with one piece of each kind, or raise InvalidPool."""
    empty = Pool(caps, [])
    for kind, (holders, count) in enumerate(kinds):
        if count < 0 or not are_different(holders, empty.seats):
            raise InvalidPool(kind)
    return Pool(caps, [holders for holders, _ in kinds])


def _counts(kinds):
    """Return the list of the counts."""
    return [count for _, count in kinds]


def _links(pool):
    """Return the list of the pairs of each kind, for the pool with one piece of each."""
    return [held_pairs(pool, kind) for kind in range(pool.pieces)]


def _amounts(pool, kinds):
    """Return the amounts of a greatest spread, for the pool with one piece of each kind."""
    rooms = {pair: pair_room(pool, pair) for pair in pairs_with_room(pool, list(range(pool.seats)))}
    return greatest_amounts(_counts(kinds), _links(pool), rooms)
