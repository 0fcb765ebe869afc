"""The text of a pool, and the pool of a text."""

from pairwarden.errors import InvalidText
from pairwarden.numbering import are_ascending
from pairwarden.pool import Pool
from pairwarden.words import is_number


def write_pool(pool):
    """Return the text of a pool."""
    lines = [_line("seats", pool.caps)] + [_line("piece", row) for row in pool.holders]
    return "".join(lines)


def read_pool(text):
    """Return the pool with this text, or raise InvalidText with the first wrong line."""
    *lines, rest = text.split("\n")
    if not lines:
        raise InvalidText(1)
    caps = _numbers_behind(lines[0], "seats")
    if not caps:
        raise InvalidText(1)
    holders = []
    for number, line in enumerate(lines[1:], start=2):
        row = _numbers_behind(line, "piece")
        if row is None or not are_ascending(row, len(caps)):
            raise InvalidText(number)
        holders.append(row)
    # What stands behind the last newline is a line that has none.
    if rest:
        raise InvalidText(len(lines) + 1)
    return Pool(caps, holders)


def _line(word, numbers):
    """Return the line with this word and these numbers."""
    return " ".join([word] + [str(number) for number in numbers]) + "\n"


def _numbers_behind(line, word):
    """Return the numbers behind the word of a line, or None if the line has another form."""
    parts = line.split(" ")
    if parts[0] != word or not all([is_number(part) for part in parts[1:]]):
        return None
    return [int(part) for part in parts[1:]]
