"""Answers about choices of small nets that are found by looking at all sends, losses and tuples."""

import itertools


def all_choices(net):
    """All choices of a small net."""
    rows = [
        [group for many in range(len(row) + 1) for group in itertools.combinations(row, many)] for row in net.holders
    ]
    return [list(choice) for choice in itertools.product(*rows)]


def all_back(net, choice, lost):
    """All allowed lists of sends, by seat and piece, that send each piece to the lost seats of its tuple."""
    needs = [(piece, seat) for seat in lost for piece, row in enumerate(choice) if seat in row]
    ways = [[sender for sender in choice[piece] if sender not in lost] for piece, _ in needs]
    found = []
    for senders in itertools.product(*ways):
        roads = [(sender, seat) for sender, (_, seat) in zip(senders, needs)]
        if all(roads.count((sender, seat)) <= net.roads[sender][seat] for sender, seat in roads):
            found.append([(piece, sender, seat) for sender, (piece, seat) in zip(senders, needs)])
    return found


def is_back(net, choice, lost):
    return all(set(row) - set(lost) for row in choice) and bool(all_back(net, choice, lost))


def losses(net, many):
    return list(itertools.combinations(range(net.seats), many))


def lasts(net, choice, at_once):
    most = min(at_once, net.seats)
    return all(is_back(net, choice, lost) for many in range(most + 1) for lost in losses(net, many))


def tree_size(node):
    """The number of nodes of a case tree."""
    return 1 + sum(map(tree_size, node[2])) if node[0] == "cases" else 1


def fits_tree(net, at_once, node, settled=()):
    """Whether a node is right, word by word, where these pieces are settled: tuples `(piece, seats)`."""
    tuples = dict(settled)
    if node[0] == "cases":
        _, piece, nodes = node
        if piece in tuples or piece not in range(net.pieces):
            return False
        sets = [
            group for many in range(net.seats + 1) if many > at_once
            for group in itertools.combinations(net.holders[piece], many)
        ]
        return len(sets) == len(nodes) and all(
            fits_tree(net, at_once, below, settled + ((piece, group),)) for group, below in zip(sets, nodes)
        )
    _, lost, seat, lot = node
    if list(lost) != sorted(set(lost)) or not set(lost) <= set(range(net.seats)) or len(lost) > at_once:
        return False
    if seat not in lost or not lot or list(lot) != sorted(set(lot)) or not set(lot) <= set(tuples):
        return False
    if not all(seat in tuples[piece] for piece in lot):
        return False
    senders = set().union(*[tuples[piece] for piece in lot]) - set(lost)
    return sum(net.roads[sender][seat] for sender in senders) < len(lot)
