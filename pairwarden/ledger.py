"""The ledger: what a list of records says."""

from pairwarden.errors import NoStore


class Ledger:
    """The caps, the names with their numbers, and the wardens of the numbers."""

    def __init__(self, records):
        if not records or records[0][0] != "picture":
            raise NoStore()
        self.caps = []
        self.names = {}
        self.wardens = {}
        self.top = 0
        for record in records:
            self._take(record)

    def to_picture(self):
        """Return the picture of all that the ledger has."""
        names = [(name, self.names[name]) for name in sorted(self.names)]
        wardens = [(number,) + self.wardens[number] for number in sorted(self.wardens)]
        return ("picture", tuple(self.caps), tuple(names), tuple(wardens))

    def _take(self, record):
        """Change what the ledger has as the record says."""
        match record:
            case ("picture", caps, names, wardens):
                self.caps = list(caps)
                self._put_all(names)
                self._set_wardens(wardens)
            case ("put", name, numbers, wardens):
                self._put(name, numbers)
                self._set_wardens(wardens)
            case ("erase", name):
                self._remove(name)
            case ("deal", wardens):
                self._set_wardens(wardens)
            case ("cap", seat, cap, wardens):
                self.caps[seat] = cap
                self._set_wardens(wardens)

    def _put_all(self, names):
        """Give each of the names its numbers."""
        for name, numbers in names:
            self._put(name, numbers)

    def _put(self, name, numbers):
        """Give the name these numbers instead of those that it had."""
        if name in self.names:
            self._remove(name)
        self.names[name] = numbers
        self.top = max(self.top, max(numbers, default=0))

    def _remove(self, name):
        """Remove the name, its numbers and their wardens."""
        for number in self.names[name]:
            self.wardens.pop(number, None)
        del self.names[name]

    def _set_wardens(self, wardens):
        """Set the pairs of the numbers of these entries."""
        for number, first, second in wardens:
            self.wardens[number] = (first, second)
            self.top = max(self.top, number)
