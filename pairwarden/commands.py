"""Commands of a desk, and their lines."""

from pairwarden.errors import InvalidLine
from pairwarden.words import is_name, is_number, joined, read_joined

# The words that stand alone, those with a name, and those with so many numbers.
ALONE = ("names", "sends", "mend", "pack")
NAMED = ("read", "erase")
NUMBERED = {"send": 2, "add": 2, "drop": 2, "cap": 2, "lose": 1}


def command_line(command):
    """Return the line of a command."""
    if command[0] == "put":
        return _put_line(command)
    return " ".join([str(part) for part in command])


def parse_line(line):
    """Return the command with this line, or raise InvalidLine."""
    command = None if "\n" in line else _read_line(line)
    if command is None:
        raise InvalidLine(line)
    return command


def _read_line(line):
    """Return the command with this line, which has no newline, or None."""
    word, _, rest = line.partition(" ")
    if word == "put":
        return _read_put(rest)
    if line in ALONE:
        return (line,)
    if word in NAMED:
        return (word, rest) if is_name(rest) else None
    parts = rest.split(" ")
    if len(parts) != NUMBERED.get(word) or not all([is_number(part) for part in parts]):
        return None
    return tuple([word] + [int(part) for part in parts])


def _read_put(rest):
    """Return the "put" with this rest of its line, or None."""
    head, colon, text = rest.partition(":")
    name, sign, seats = head.partition("@")
    at = read_joined(seats) if sign else []
    if not colon or not is_name(name) or at is None:
        return None
    return ("put", name, tuple(at), text)


def _put_line(command):
    """Return the line of a "put"."""
    _, name, at, text = command
    seats = "@" + joined(at) if at else ""
    return f"put {name}{seats}:{text}"
