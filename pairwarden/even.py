"""Even layouts: pairs for many pieces, no pair and no seat much more often than another."""

from itertools import combinations


def even_pairs(seats, pieces):
    """Return a list of pairs in which all pairs, and all seats, occur equally often or almost so."""
    pairs = list(combinations(range(seats), 2))
    rounds, rest = divmod(pieces, len(pairs))
    return pairs * rounds + _different_pairs(seats, rest)


def least_even_cap(seats, pieces):
    """Return the least cap of all seats with which these pairs make a safe pool."""
    pairs = seats * (seats - 1) // 2
    return (pieces + pairs - 1) // pairs


def _different_pairs(seats, many):
    """Return so many different pairs in which all seats occur equally often or almost so."""
    least, more = divmod(2 * many, seats)
    needs = {seat: least + 1 if seat < more else least for seat in range(seats)}
    pairs = []
    while len(pairs) < many:
        # As long as the seat that needs most goes with those that need most of the others, no need is left over.
        first, *others = sorted(needs, key=lambda seat: -needs[seat])
        partners = others[:needs.pop(first)]
        for other in partners:
            pairs.append((min(first, other), max(first, other)))
            needs[other] -= 1
    return pairs
