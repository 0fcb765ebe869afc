"""Games between a foe, who takes the copies of seats, and a keeper, who sends them back."""

from pairwarden.dealer import is_safe
from pairwarden.pool import dead_pieces
from pairwarden.rounds import after_round


class Game:
    """Keeps a pool and the rounds that were played on it."""

    def __init__(self, pool):
        self.start = pool
        self.pool = pool
        self.rounds = ()
        self._fault = None if is_safe(pool) else 0

    def play(self, seat, sends):
        """Play a round, or raise InvalidSends."""
        self.pool = after_round(self.pool, seat, sends)
        self.rounds = self.rounds + ((seat, tuple(sends)),)
        # Rounds never add copies, so a pool that is not safe does not become safe again.
        if self._fault is None and not is_safe(self.pool):
            self._fault = len(self.rounds)

    def dead(self):
        """Return the ascending list of the dead pieces."""
        return dead_pieces(self.pool)

    def first_fault(self):
        """Return after which round the pool was not safe for the first time, 0 for the start, or None."""
        return self._fault

    def __iter__(self):
        return iter(self.rounds)
