"""The desk: a store that is run by lines, and the journal of the lines that changed it."""

from pairwarden.commands import parse_line
from pairwarden.errors import (
    CannotHold, InvalidCopy, InvalidDeed, InvalidLine, InvalidName, InvalidSeats, Lost, Missing, Unfinished,
)
from pairwarden.store import Store, found
from pairwarden.world import World


class Desk:
    """A world, its store, and the lines that changed them."""

    def __init__(self, caps):
        self.world = World(len(caps))
        found(self.world, caps)
        self.store = Store(self.world)
        self.journal = ()

    def do(self, line):
        """Run the command of a line and return the answer, or raise PowerCut."""
        try:
            return self._answer(line)
        except InvalidLine:
            return "refused InvalidLine"
        except InvalidName:
            return "refused InvalidName"
        except InvalidSeats:
            return "refused InvalidSeats"
        except InvalidCopy:
            return "refused InvalidCopy"
        except InvalidDeed:
            return "refused InvalidDeed"
        except Unfinished:
            return "refused Unfinished"
        except CannotHold:
            return "refused CannotHold"
        except Missing:
            return "refused Missing"
        except Lost:
            return "refused Lost"

    def _answer(self, line):
        """Run the command of a line and return the answer, or raise what is wrong with it."""
        command = parse_line(line)
        match command:
            case ("read", name):
                return f"text {self.store.read(name)}"
            case ("names",):
                return " ".join(["names"] + self.store.list_names())
            case ("sends",):
                rows = [f"{number}:{sender}>{seat}" for number, sender, seat in self.store.list_sends()]
                return " ".join(["sends"] + rows)
        self._change(command)
        self.journal = self.journal + (line,)
        return "done"

    def _change(self, command):
        """Run a command that changes the store or the world."""
        match command:
            case ("put", name, at, text):
                self.store.put(name, text, at=at)
            case ("erase", name):
                self.store.erase(name)
            case ("send", number, seat):
                self.store.send(number, seat)
            case ("add", number, seat):
                self.store.add_copy(number, seat)
            case ("drop", number, seat):
                self.store.drop_copy(number, seat)
            case ("cap", seat, cap):
                self.store.set_cap(seat, cap)
            case ("mend",):
                self.store.mend()
            case ("pack",):
                self.store.pack()
            case ("lose", seat):
                self._lose(seat)

    def _lose(self, seat):
        """Lose the disk of a seat, or raise InvalidSeats."""
        if seat >= self.world.seats:
            raise InvalidSeats((seat,))
        self.world.lose(seat)


def replay(caps, lines):
    """Return a new desk on which these lines were run."""
    desk = Desk(caps)
    for line in lines:
        desk.do(line)
    return desk
