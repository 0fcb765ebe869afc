"""Nets: pools in which several seats are lost at once, and sends are limited for each road."""

from pairwarden.errors import InvalidPool, InvalidSends
from pairwarden.pool import ordered_holders


class Net:
    """The roads between the seats and the holders of the pieces; it never changes."""

    def __init__(self, roads, holders):
        if len(roads) == 0:
            raise InvalidPool(None)
        for row in roads:
            if len(row) != len(roads) or min(row) < 0:
                raise InvalidPool(None)
        self.roads = tuple([tuple(row) for row in roads])
        self.holders = ordered_holders(holders, len(roads))
        self.seats = len(self.roads)
        self.pieces = len(self.holders)

    @classmethod
    def level(cls, seats, cap, holders):
        """Return the net in which all roads have the same number."""
        return cls([[cap] * seats] * seats, holders)


def after_losses(net, lost, sends):
    """Return the net after the round in which these seats are lost, or raise InvalidSends."""
    made = set()
    counts = {}
    for at, (piece, sender, seat) in enumerate(sends):
        if (piece, seat) in made or not _can_send(net, lost, piece, sender, seat):
            raise InvalidSends(at)
        road = (sender, seat)
        if counts.get(road, 0) >= net.roads[sender][seat]:
            raise InvalidSends(at)
        made.add((piece, seat))
        counts[road] = counts.get(road, 0) + 1
    holders = [[other for other in row if other not in lost] for row in net.holders]
    for piece, _, seat in sends:
        holders[piece].append(seat)
    return Net(net.roads, holders)


def _can_send(net, lost, piece, sender, seat):
    """Tell whether the lost seat held the piece before the round, and the sender holds it after the loss."""
    if not 0 <= piece < net.pieces or seat not in lost or sender in lost:
        return False
    return seat in net.holders[piece] and sender in net.holders[piece]
