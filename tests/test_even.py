"""Point 66."""

import itertools
import unittest

from pairwarden.dealer import is_safe
from pairwarden.even import even_pairs, least_even_cap
from pairwarden.pool import Pool
from samples import seconds

MANY = [*range(0, 70), 77, 90, 99, 100, 120, 131, 132, 133, 150, 165, 181, 197, 198, 199, 200]


class TestPairs(unittest.TestCase):
    def test_ordinary(self):
        self.assertEqual(even_pairs(2, 0), [])
        self.assertEqual(even_pairs(2, 3), [(0, 1)] * 3)
        self.assertEqual(sorted(even_pairs(3, 3)), [(0, 1), (0, 2), (1, 2)])
        self.assertEqual(sorted(even_pairs(3, 6)), [(0, 1), (0, 1), (0, 2), (0, 2), (1, 2), (1, 2)])
        self.assertEqual(sorted(seat for pair in even_pairs(4, 2) for seat in pair), [0, 1, 2, 3])

    def test_all_counts(self):
        for seats in range(2, 13):
            pairs = list(itertools.combinations(range(seats), 2))
            for pieces in MANY:
                found = even_pairs(seats, pieces)
                self.assertIsInstance(found, list)
                self.assertEqual(len(found), pieces)
                self.assertTrue(all(isinstance(pair, tuple) and pair in pairs for pair in found))
                counts = [found.count(pair) for pair in pairs]
                self.assertLessEqual(max(counts) - min(counts), 1)
                held = [sum(seat in pair for pair in found) for seat in range(seats)]
                self.assertLessEqual(max(held) - min(held), 1)

    def test_new_lists(self):
        even_pairs(4, 9).clear()
        self.assertEqual(len(even_pairs(4, 9)), 9)


class TestCap(unittest.TestCase):
    def test_example(self):
        self.assertEqual(least_even_cap(4, 7), 2)

    def test_ordinary(self):
        for seats, pieces, cap in (
            (2, 0, 0), (2, 1, 1), (2, 200, 200), (3, 3, 1), (3, 4, 2), (4, 6, 1), (4, 0, 0), (12, 66, 1), (12, 67, 2),
            (12, 200, 4), (12, 1, 1), (11, 55, 1), (11, 110, 2), (11, 111, 3),
        ):
            self.assertEqual(least_even_cap(seats, pieces), cap)

    def test_against_pools(self):
        for seats in range(2, 13):
            for pieces in (0, 1, 2, 3, 5, 6, 7, 10, 15, 21, 28, 36, 45, 55, 59, 60):
                cap, pairs = least_even_cap(seats, pieces), even_pairs(seats, pieces)
                self.assertIs(is_safe(Pool([cap] * seats, pairs)), True)
                if cap:
                    self.assertIs(is_safe(Pool([cap - 1] * seats, pairs)), False)
                    # Nor with any other holders.
                    self.assertIs(is_safe(Pool([cap - 1] * seats, [range(seats)] * pieces)), False)

    def test_time(self):
        for pieces in (0, 65, 66, 131, 199, 200):
            self.assertLess(seconds(even_pairs, 12, pieces), 1)
            self.assertLess(seconds(least_even_cap, 12, pieces), 1)
