"""Rows of seats or pieces, both of which are numbered from 0."""


def are_different(numbers, limit):
    """Tell whether all numbers exist below the limit and none occurs twice."""
    if not all([0 <= number < limit for number in numbers]):
        return False
    return len(set(numbers)) == len(numbers)


def are_ascending(numbers, limit):
    """Tell whether all numbers exist below the limit and each is greater than the one before."""
    least = 0
    for number in numbers:
        if not least <= number < limit:
            return False
        least = number + 1
    return True
