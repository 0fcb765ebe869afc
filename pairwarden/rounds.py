"""Rounds: one seat loses all its copies, and other seats send pieces back to it."""

from pairwarden.dealer import is_safe
from pairwarden.deeds import apply_deed, loss_deed
from pairwarden.errors import InvalidSends


def after_loss(pool, seat):
    """Return the pool in which the seat holds nothing."""
    return apply_deed(pool, loss_deed(pool, seat))


def after_round(pool, seat, sends):
    """Return the pool after the round, or raise InvalidSends."""
    _check_sends(pool, seat, sends)
    return with_sent(pool, seat, [piece for piece, _ in sends])


def with_sent(pool, seat, pieces):
    """Return the pool after a round in which exactly these pieces, all different, are sent to the seat."""
    return apply_deed(after_loss(pool, seat), ("give", seat, tuple(pieces)))


def told_sends(pool, dealing, seat):
    """Return the sends by which each piece whose pair has the seat gets its pair back."""
    sends = []
    for piece in range(pool.pieces):
        pair = dealing[piece]
        if pair is not None and seat in pair:
            sends.append((piece, pair[0] if pair[1] == seat else pair[1]))
    return sends


def keeps_safe(pool, seat, sends):
    """Tell whether the pool after the round is safe, or raise InvalidSends."""
    return is_safe(after_round(pool, seat, sends))


def _check_sends(pool, seat, sends):
    """Raise InvalidSends with the index of the first send that is not allowed, if there is one."""
    sent = set()
    counts = {}
    for at, (piece, sender) in enumerate(sends):
        if piece in sent or not _can_send(pool, seat, piece, sender):
            raise InvalidSends(at)
        if counts.get(sender, 0) >= pool.caps[sender]:
            raise InvalidSends(at)
        sent.add(piece)
        counts[sender] = counts.get(sender, 0) + 1


def _can_send(pool, seat, piece, sender):
    """Tell whether the seat held the piece before its loss, and the sender is another holder."""
    if not 0 <= piece < pool.pieces or sender == seat:
        return False
    return seat in pool.holders[piece] and sender in pool.holders[piece]
