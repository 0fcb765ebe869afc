"""The words of texts, records and lines: names and numbers."""


def is_name(word):
    """Tell whether the string is a name: 1 to 12 lowercase letters and digits."""
    return 1 <= len(word) <= 12 and all(["a" <= char <= "z" or "0" <= char <= "9" for char in word])


def is_number(word):
    """Tell whether the string consists of digits without a leading zero."""
    return word.isdigit() and (word == "0" or not word.startswith("0"))


def joined(numbers):
    """Return the numbers in one word, with commas between them."""
    return ",".join([str(number) for number in numbers])


def read_joined(word):
    """Return the list of the numbers in one word, at least one, or None if the word has another form."""
    parts = word.split(",")
    return [int(part) for part in parts] if all([is_number(part) for part in parts]) else None
