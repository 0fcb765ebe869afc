"""Cases: lasting choices that are found case by case, and trees that show that there is none."""

from itertools import combinations

from pairwarden.numbering import are_ascending


class Search:
    """A net, the tuples that each piece can be settled with, and the seats that get too little back."""

    def __init__(self, net, at_once):
        self.net = net
        self.at_once = at_once
        self.groups = [_groups(row, at_once) for row in net.holders]
        self.short = [_short_seats(net, at_once, many) for many in range(net.pieces + 1)]


def settle(net, at_once):
    """Return ("kept", a lasting choice), or ("lost", a case tree) if there is none."""
    return _settle_rest(Search(net, at_once), {}, [])


def is_case_tree(net, at_once, tree):
    """Tell whether the tree is one that shows that the net has no lasting choice."""
    return _is_node(net, at_once, {}, tree)


def _groups(holders, at_once):
    """Return the sets of more than so many of the holders, by length and then as tuples."""
    return [group for many in range(at_once + 1, len(holders) + 1) for group in combinations(list(holders), many)]


def _bits(seats):
    """Return a set of different seats as one number: the bit of each seat is 1."""
    return sum([1 << seat for seat in seats])


def _seats_of(bits, seats):
    """Return the ascending list of the seats whose bits are 1."""
    return [seat for seat in range(seats) if bits >> seat & 1]


def _short_seats(net, at_once, many):
    """Return for each set of senders, as bits, the seats that a loss can keep from getting so many pieces."""
    short = []
    for bits in range(1 << net.seats):
        senders = _seats_of(bits, net.seats)
        seats = [seat for seat in range(net.seats) if _least_coming(net, at_once, senders, seat) < many]
        short.append(_bits(seats))
    return short


def _least_coming(net, at_once, senders, seat):
    """Return how many pieces the senders can send to the lost seat after the worst loss."""
    left = _by_road(net, senders, seat)[at_once - 1:]
    return sum([net.roads[sender][seat] for sender in left])


def _by_road(net, senders, seat):
    """Return the senders other than the seat, those with the greatest roads to it first."""
    others = [sender for sender in senders if sender != seat]
    return sorted(others, key=lambda sender: -net.roads[sender][seat])


def _settle_rest(search, settled, lots):
    """Return ("kept", choice) or ("lost", node) for a node at which these pieces are settled.

    The lots are all lots of settled pieces whose tuples have a seat in common. Each is a tuple of the
    pieces, the seats in the tuple of any of them and the seats in the tuples of all of them, as bits.
    """
    left = [piece for piece in range(search.net.pieces) if piece not in settled]
    if not left:
        return ("kept", [settled[piece] for piece in sorted(settled)])
    # The fewest cases to go on with keep the tree small.
    _, piece = min([(_count_open(search, lots, other), other) for other in left])
    nodes = []
    for group in search.groups[piece]:
        more = _lots_with(lots, piece, group)
        node = _fault_of(search, more)
        if node is None:
            word, node = _settle_rest(search, {**settled, piece: group}, lots + more)
            if word == "kept":
                return (word, node)
        nodes.append(node)
    return ("lost", ("cases", piece, tuple(nodes)))


def _count_open(search, lots, piece):
    """Return how many tuples the piece can be settled with without a fault at once."""
    groups = search.groups[piece]
    return len([group for group in groups if _faulty_lot(search, _lots_with(lots, piece, group)) is None])


def _lots_with(lots, piece, group):
    """Return the lots that the piece, settled with this tuple, makes alone and together with the others."""
    bits = _bits(group)
    rows = [(pieces + (piece,), senders | bits, seats & bits) for pieces, senders, seats in lots if seats & bits]
    return [((piece,), bits, bits)] + rows


def _faulty_lot(search, lots):
    """Return the first of the lots that some seat cannot get back after some loss, or None."""
    for lot in lots:
        pieces, senders, seats = lot
        if seats & search.short[len(pieces)][senders]:
            return lot
    return None


def _fault_of(search, lots):
    """Return the node of the first faulty one of the lots, or None."""
    lot = _faulty_lot(search, lots)
    if lot is None:
        return None
    net = search.net
    pieces, senders, seats = lot
    seat = _seats_of(seats & search.short[len(pieces)][senders], net.seats)[0]
    # The worst loss takes those who could send most.
    strongest = _by_road(net, _seats_of(senders, net.seats), seat)[:search.at_once - 1]
    return ("fault", tuple(sorted([seat] + strongest)), seat, tuple(sorted(pieces)))


def _is_node(net, at_once, settled, node):
    """Tell whether this is a node of a case tree at which these pieces are settled."""
    match node:
        case ("cases", piece, nodes):
            if not 0 <= piece < net.pieces or piece in settled:
                return False
            return _are_cases(net, at_once, settled, piece, nodes)
        case ("fault", lost, seat, lot):
            if not are_ascending(lost, net.seats) or len(lost) > at_once or seat not in lost:
                return False
            return are_ascending(lot, net.pieces) and _is_fault(net, settled, lost, seat, lot)
    return False


def _are_cases(net, at_once, settled, piece, nodes):
    """Tell whether there is a right node for each tuple that the piece can be settled with."""
    groups = _groups(net.holders[piece], at_once)
    if len(nodes) != len(groups):
        return False
    for group, node in zip(groups, nodes):
        if not _is_node(net, at_once, {**settled, piece: group}, node):
            return False
    return True


def _is_fault(net, settled, lost, seat, lot):
    """Tell whether the settled pieces of the lot cannot all be sent to the seat after the loss."""
    if not lot or not all([piece in settled and seat in settled[piece] for piece in lot]):
        return False
    senders = {sender for piece in lot for sender in settled[piece] if sender not in lost}
    return sum([net.roads[sender][seat] for sender in sorted(senders)]) < len(lot)
