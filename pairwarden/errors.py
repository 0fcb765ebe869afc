"""The errors that the program raises."""


class PoolError(ValueError):
    """The base class of all errors that the program raises."""


class InvalidPool(PoolError):
    """The pool cannot exist: because of a piece, or as a whole (None)."""

    def __init__(self, piece):
        self.piece = piece


class InvalidChoice(PoolError):
    """The choice is wrong: at a piece, or as a whole (None)."""

    def __init__(self, piece):
        self.piece = piece


class InvalidText(PoolError):
    """The text is not the text of a pool; its first wrong line is told."""

    def __init__(self, line):
        self.line = line


class InvalidDeed(PoolError):
    """The deed cannot be done to the pool."""

    def __init__(self, deed):
        self.deed = deed


class NothingToUndo(PoolError):
    """No deed is done that could be taken back."""


class NothingToRedo(PoolError):
    """No deed is undone that could be done again."""


class InvalidDealing(PoolError):
    """The list is not a dealing of the pool."""


class InvalidTarget(PoolError):
    """The pool cannot be turned into this target."""


class NoStore(PoolError):
    """No store is founded here."""


class PowerCut(PoolError):
    """The power failed during a write."""


class InvalidSends(PoolError):
    """The sends are not allowed; the index of the first wrong one is told."""

    def __init__(self, at):
        self.at = at


class InvalidTable(PoolError):
    """The rebuild table does not fit: at an entry, or as a whole (None, None)."""

    def __init__(self, seat, at):
        self.seat = seat
        self.at = at


class Unsafe(PoolError):
    """The pool is not safe; a lot shows why."""

    def __init__(self, lot):
        self.lot = list(lot)


class CannotHold(PoolError):
    """The store could not keep all its pieces; a lot shows why."""

    def __init__(self, lot):
        self.lot = list(lot)


class Unfinished(PoolError):
    """The store is not at rest; the lacking copies are told."""

    def __init__(self, copies):
        self.copies = list(copies)


class InvalidName(PoolError):
    """The string is not a name."""

    def __init__(self, name):
        self.name = name


class Missing(PoolError):
    """The store has no such name."""

    def __init__(self, name):
        self.name = name


class Lost(PoolError):
    """A piece of the name has no copy."""

    def __init__(self, name):
        self.name = name


class InvalidSeats(PoolError):
    """A seat does not exist or occurs twice."""

    def __init__(self, seats):
        self.seats = seats


class InvalidCopy(PoolError):
    """The copy of a piece on a seat is not one that the call can take."""

    def __init__(self, number, seat):
        self.number = number
        self.seat = seat


class InvalidLine(PoolError):
    """The line is not the line of a command."""

    def __init__(self, text):
        self.text = text
