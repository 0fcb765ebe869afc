"""Higher caps, and the least ones that make a pool safe."""

from pairwarden.dealer import is_safe
from pairwarden.deeds import apply_deed
from pairwarden.pool import Pool


def raised(pool, amount):
    """Return the pool with each cap higher by this amount."""
    return Pool([cap + amount for cap in pool.caps], pool.holders)


def least_raise(pool):
    """Return the least amount with which the raised pool is safe, or None if there is none."""
    # With as many places in each pair as there are pieces, more places do not help.
    return _first_safe([raised(pool, amount) for amount in range(pool.pieces + 1)])


def least_cap(pool, seat):
    """Return the least cap of the seat with which the pool is safe, or None if there is none."""
    # A cap above the number of pieces gives no pair a place that could be used.
    return _first_safe([apply_deed(pool, ("cap", seat, cap)) for cap in range(pool.pieces + 1)])


def _first_safe(pools):
    """Return the index of the first safe pool, or None; those behind a safe one are safe, too."""
    low, high = 0, len(pools)
    while low < high:
        middle = (low + high) // 2
        if is_safe(pools[middle]):
            high = middle
        else:
            low = middle + 1
    return low if low < len(pools) else None
