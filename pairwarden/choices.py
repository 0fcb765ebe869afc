"""Choices: the copies that are given back whenever several seats are lost at once."""

from itertools import combinations

from pairwarden.errors import InvalidChoice
from pairwarden.flows import greatest_amounts


def give_back(net, choice, lost):
    """Return sends that give the choice back after this loss, or None, or raise InvalidChoice."""
    _check_choice(net, choice)
    return _sends_back(net, choice, lost)


def is_lasting(net, choice, at_once):
    """Tell whether the choice is given back after every loss of so many seats, or raise InvalidChoice."""
    _check_choice(net, choice)
    return _first_weak(net, choice, min(at_once, net.seats)) is None


def weak_seats(net, at_once):
    """Return the first list of seats after whose loss not all copies are given back, or None."""
    return _first_weak(net, net.holders, min(at_once, net.seats))


def count_fault(choice, seats, cap, at_once):
    """Return the first seat and others that hold too many pieces for equal roads, or None."""
    for seat in range(seats):
        others = [other for other in range(seats) if other != seat]
        for many in range(seats):
            most = cap * max(0, many - at_once + 1)
            for group in combinations(others, many):
                if _count_within(choice, seat, group) > most:
                    return (seat, group)
    return None


def _count_within(choice, seat, others):
    """Return how many tuples contain the seat and beside it only some of the others."""
    rows = [row for row in choice if seat in row]
    return len([row for row in rows if all([other == seat or other in others for other in row])])


def _check_choice(net, choice):
    """Raise InvalidChoice if the list is not a choice of the net."""
    if len(choice) != net.pieces:
        raise InvalidChoice(None)
    for piece, row in enumerate(choice):
        if list(row) != [seat for seat in net.holders[piece] if seat in row]:
            raise InvalidChoice(piece)


def _first_weak(net, choice, many):
    """Return the first list of so many seats after whose loss the choice is not given back, or None."""
    # What is given back after a loss is given back after the loss of fewer of its seats, too.
    for lost in combinations(range(net.seats), many):
        if _sends_back(net, choice, lost) is None:
            return list(lost)
    return None


def _sends_back(net, choice, lost):
    """Return sends that give the choice back after this loss, or None."""
    if not all([_stays(row, lost) for row in choice]):
        return None
    sends = []
    for seat in lost:
        coming = _sends_to(net, choice, lost, seat)
        if coming is None:
            return None
        sends.extend(coming)
    return sends


def _stays(row, lost):
    """Tell whether one of the seats is not lost."""
    return any([seat not in lost for seat in row])


def _sends_to(net, choice, lost, seat):
    """Return sends of all pieces whose tuple has the lost seat, or None if they cannot all be sent to it."""
    pieces = [piece for piece, row in enumerate(choice) if seat in row]
    links = [[sender for sender in choice[piece] if sender not in lost] for piece in pieces]
    rooms = {sender: net.roads[sender][seat] for sender in range(net.seats)}
    # Each piece is an item with the count 1, so it gets one sender or none.
    amounts = greatest_amounts([1] * len(pieces), links, rooms)
    if not all(amounts):
        return None
    return [(piece, sender, seat) for piece, row in zip(pieces, amounts) for sender in row]
