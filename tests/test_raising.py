"""Points 28 and 29."""

import itertools
import unittest

import counting
from pairwarden.dealer import is_safe
from pairwarden.deeds import apply_deed
from pairwarden.pool import Pool
from pairwarden.raising import least_cap, least_raise, raised
from samples import greatest_pools, many_pools, same, seconds

GREAT = 10 ** 60 - 1


def with_caps(pool, caps):
    return Pool(caps, pool.holders)


def first_safe(pools):
    return next((at for at, pool in enumerate(pools) if counting.is_full(pool)), None)


def raise_by_the_fact(pool):
    """The greatest lack of a lot divided by the number of all its pairs, rounded up."""
    if any(len(row) < 2 for row in pool.holders):
        return None
    least = 0
    for lot in counting.all_lots(pool)[1:]:
        pairs = {pair for piece in lot for pair in counting.pairs_of(pool, piece)}
        least = max(least, -(-counting.count_lack(pool, lot) // len(pairs)))
    return least


class TestRaised(unittest.TestCase):
    def test_raised(self):
        pool = Pool([0, 3, GREAT], [[2, 0], []])
        self.assertEqual(raised(pool, 2).caps, (2, 5, GREAT + 2))
        self.assertEqual(raised(pool, 2).holders, ((0, 2), ()))
        self.assertEqual(raised(pool, GREAT).caps, (GREAT, GREAT + 3, 2 * GREAT))
        self.assertTrue(same(raised(pool, 0), pool))
        self.assertEqual([pool.caps, pool.holders], [(0, 3, GREAT), ((0, 2), ())])


class TestLeastRaise(unittest.TestCase):
    def test_example(self):
        self.assertEqual(least_raise(Pool([0, 0], [[0, 1], [0, 1]])), 2)

    def test_safe_pools(self):
        self.assertEqual(least_raise(Pool([0], [])), 0)
        self.assertEqual(least_raise(Pool([1, 1], [[0, 1]])), 0)
        self.assertEqual(least_raise(Pool([GREAT, GREAT], [[0, 1]] * 60)), 0)

    def test_fewer_than_two_holders(self):
        for holders in ([[]], [[0]], [[0, 1], []], [[0, 1], [1]], [[1], [0, 1]]):
            self.assertIsNone(least_raise(Pool([9, 9], holders)))
            self.assertIsNone(least_raise(Pool([0, GREAT], holders)))

    def test_as_many_as_there_are_pieces(self):
        for many in range(1, 10):
            self.assertEqual(least_raise(Pool([0, 0], [[0, 1]] * many)), many)
            self.assertEqual(least_raise(Pool([0, GREAT], [[0, 1]] * many)), many)
            self.assertEqual(least_raise(Pool([1, 1], [[0, 1]] * many)), many - 1)
            self.assertEqual(least_raise(Pool([0, 0, 0], [[0, 1, 2]] * many)), -(-many // 3))

    def test_found_one_by_one(self):
        for pool in many_pools(200, 28) + many_pools(60, 281, seats=3, pieces=7):
            pools = [with_caps(pool, [cap + amount for cap in pool.caps]) for amount in range(pool.pieces + 2)]
            amount = least_raise(pool)
            self.assertEqual(amount, first_safe(pools))
            self.assertEqual(amount, raise_by_the_fact(pool))
            self.assertEqual(amount is None, any(len(row) < 2 for row in pool.holders))

    def test_great_pools(self):
        for pool in greatest_pools():
            amount = least_raise(pool)
            self.assertTrue(is_safe(raised(pool, amount)))
            if amount:
                self.assertFalse(is_safe(raised(pool, amount - 1)))
        self.assertEqual(least_raise(Pool([0] * 12, [[0, 1]] * 60)), 60)

    def test_time(self):
        for pool in greatest_pools():
            self.assertLess(seconds(raised, pool, GREAT), 1)
            self.assertLess(seconds(least_raise, pool), 1)
            self.assertLess(seconds(least_cap, pool, 11), 1)


class TestLeastCap(unittest.TestCase):
    def test_ordinary(self):
        self.assertEqual(least_cap(Pool([0, 3], [[0, 1], [0, 1]]), 0), 2)
        self.assertEqual(least_cap(Pool([0, 2], [[0, 1], [0, 1]]), 0), 2)
        self.assertEqual(least_cap(Pool([7, 2], [[0, 1], [0, 1]]), 0), 2)
        self.assertEqual(least_cap(Pool([0, 60], [[0, 1]] * 60), 0), 60)
        self.assertEqual(least_cap(Pool([GREAT, GREAT], [[0, 1]] * 60), 1), 60)

    def test_no_such_cap(self):
        self.assertIsNone(least_cap(Pool([5, 1], [[0, 1], [0, 1]]), 0))
        self.assertIsNone(least_cap(Pool([5, 0], [[0, 1]]), 0))
        self.assertIsNone(least_cap(Pool([5], [[]]), 0))
        self.assertIsNone(least_cap(Pool([5], [[0]]), 0))
        self.assertIsNone(least_cap(Pool([5, 1, 1], [[1, 2], [1, 2]]), 0))

    def test_cap_0(self):
        self.assertEqual(least_cap(Pool([5], []), 0), 0)
        self.assertEqual(least_cap(Pool([5, 1, 1], [[1, 2]]), 0), 0)
        self.assertEqual(least_cap(Pool([5, 1, 1], [[0, 1, 2]]), 0), 0)
        self.assertEqual(least_cap(Pool([5, 1, 1], [[0, 1, 2], [0, 1]]), 0), 1)

    def test_found_one_by_one_whatever_the_cap_is(self):
        for pool in many_pools(120, 29) + many_pools(40, 291, seats=3, pieces=7):
            for seat in range(pool.seats):
                def changed(cap):
                    return with_caps(pool, pool.caps[:seat] + (cap,) + pool.caps[seat + 1:])
                wanted = first_safe([changed(cap) for cap in range(pool.pieces + 2)])
                for cap in (pool.caps[seat], 0, 1, 7, GREAT):
                    self.assertEqual(least_cap(changed(cap), seat), wanted)

    def test_great_pools(self):
        for pool, seat in itertools.product(greatest_pools(), (0, 6, 11)):
            cap = least_cap(pool, seat)
            if cap is None:
                self.assertFalse(is_safe(apply_deed(pool, ("cap", seat, GREAT))))
            else:
                self.assertTrue(is_safe(apply_deed(pool, ("cap", seat, cap))))
                self.assertFalse(cap and is_safe(apply_deed(pool, ("cap", seat, cap - 1))))
