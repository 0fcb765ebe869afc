"""Records: what the log of a store says, as texts that cannot be mistaken when they are torn."""

from pairwarden.words import is_name, is_number, joined, read_joined


def record_text(record):
    """Return the text of a record."""
    return " ".join(_words(record)) + ";"


def read_record(text):
    """Return the record with this text, or None if no record has it."""
    body, mark, rest = text.partition(";")
    if not mark or rest:
        return None
    word, *words = body.split(" ")
    if word == "picture":
        return _read_picture(words)
    if word == "put":
        return _read_put(words)
    if word == "erase":
        return ("erase", words[0]) if len(words) == 1 and is_name(words[0]) else None
    if word == "deal":
        return _read_deal(words)
    if word == "cap":
        return _read_cap(words)
    return None


def read_log(log):
    """Return the list of the records that count."""
    start = _last_picture(log)
    if start is None:
        return []
    records = []
    for text in log[start:]:
        record = read_record(text)
        if record is None:
            return records
        records.append(record)
    return records


def log_end(log):
    """Return the index behind the last record that counts."""
    start = _last_picture(log)
    return 0 if start is None else start + len(read_log(log))


def _words(record):
    """Return the words of a record."""
    match record:
        case ("picture", caps, names, wardens):
            return ["picture", joined(caps)] + _name_words(names) + _warden_words(wardens)
        case ("put", name, numbers, wardens):
            return ["put"] + _name_words([(name, numbers)]) + _warden_words(wardens)
        case ("erase", name):
            return ["erase", name]
        case ("deal", wardens):
            return ["deal"] + _warden_words(wardens)
        case ("cap", seat, cap, wardens):
            return ["cap", str(seat), str(cap)] + _warden_words(wardens)


def _name_words(names):
    """Return the words of names with their numbers."""
    return [name + "=" + joined(numbers) for name, numbers in names]


def _warden_words(wardens):
    """Return the words of warden entries, with the slash before them."""
    return ["/"] + [f"{number}:{first},{second}" for number, first, second in wardens]


def _read_picture(words):
    """Return the picture with these words behind its first one, or None."""
    if "/" not in words:
        return None
    at = words.index("/")
    caps = read_joined(words[0])
    names = [_read_name(word) for word in words[1:at]]
    wardens = _read_wardens(words[at:])
    if caps is None or None in names or wardens is None or not _rise([name for name, _ in names]):
        return None
    return ("picture", tuple(caps), tuple(names), wardens)


def _read_put(words):
    """Return the "put" with these words behind its first one, or None."""
    name = _read_name(words[0]) if words else None
    wardens = _read_wardens(words[1:])
    return None if name is None or wardens is None else ("put", name[0], name[1], wardens)


def _read_deal(words):
    """Return the "deal" with these words behind its first one, or None."""
    wardens = _read_wardens(words)
    return None if wardens is None else ("deal", wardens)


def _read_cap(words):
    """Return the "cap" with these words behind its first one, or None."""
    numbers = words[:2]
    wardens = _read_wardens(words[2:])
    if not all([is_number(word) for word in numbers]) or wardens is None:
        return None
    return ("cap", int(numbers[0]), int(numbers[1]), wardens)


def _read_name(word):
    """Return the tuple of a name and its numbers with this word, or None."""
    name, mark, rest = word.partition("=")
    numbers = read_joined(rest) if rest else []
    if not is_name(name) or not mark or numbers is None or not _count(numbers):
        return None
    return (name, tuple(numbers))


def _read_wardens(words):
    """Return the tuple of the warden entries with these words, the slash among them, or None."""
    if not words or words[0] != "/":
        return None
    wardens = [_read_warden(word) for word in words[1:]]
    if None in wardens or not _count([number for number, _, _ in wardens]):
        return None
    return tuple(wardens)


def _read_warden(word):
    """Return the warden entry with this word, or None."""
    number, _, rest = word.partition(":")
    pair = read_joined(rest)
    if not is_number(number) or pair is None or len(pair) != 2 or not _rise(pair):
        return None
    return (int(number), pair[0], pair[1])


def _rise(items):
    """Tell whether each item is greater than the one before."""
    return all([first < second for first, second in zip(items, items[1:])])


def _count(numbers):
    """Tell whether the numbers ascend and all of them are numbers of pieces."""
    return _rise([0] + numbers)


def _last_picture(log):
    """Return the greatest index at which the log has the text of a picture, or None."""
    for index in reversed(range(len(log))):
        # Only the texts of pictures begin like this, and the other ones need not be read.
        if log[index].startswith("picture ") and read_record(log[index]) is not None:
            return index
    return None
