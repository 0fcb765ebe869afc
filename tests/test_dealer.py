"""Points 7, 8, 22 and 23."""

import itertools
import random
import unittest

import counting
from pairwarden.dealer import first_dealing, greatest_dealing, is_safe, most_dealt
from pairwarden.errors import InvalidDealing
from pairwarden.papers import is_dealing
from pairwarden.pool import Pool
from samples import error_of, greatest_pools, many_pools, seconds

P, Q, R = (0, 1), (0, 2), (1, 2)


class TestGreatest(unittest.TestCase):
    def test_without_a_start(self):
        for pool in many_pools(200, 22):
            dealing = greatest_dealing(pool)
            self.assertTrue(is_dealing(pool, dealing))
            self.assertEqual(len(counting.dealt(dealing)), counting.count_most(pool))
            self.assertEqual(greatest_dealing(pool, start=None), dealing)

    def test_every_start(self):
        for pool in many_pools(60, 221, seats=3, pieces=4, cap=2):
            most = counting.count_most(pool)
            for start in counting.all_dealings(pool):
                kept = list(start)
                dealing = greatest_dealing(pool, start=start)
                self.assertTrue(is_dealing(pool, dealing))
                self.assertEqual(len(counting.dealt(dealing)), most)
                self.assertLessEqual(counting.dealt(start), counting.dealt(dealing))
                self.assertEqual(start, kept)
                self.assertIsNot(dealing, start)

    def test_a_dealt_piece_may_change_its_pair(self):
        pool = Pool([1, 1, 1], [[0, 1, 2], [0, 1]])
        dealing = greatest_dealing(pool, start=[P, None])
        self.assertEqual(dealing[1], P)
        self.assertIn(dealing[0], [Q, R])

    def test_lists_that_are_no_dealings(self):
        pool = Pool([1, 1, 1, 0], [[0, 1], [0, 1, 2], [3, 0]])
        for start in (
            [], [None], [None] * 2, [None] * 4, [P, None], [(1, 0), None, None], [(0, 0), None, None],
            [Q, None, None], [None, None, (0, 3)], [P, P, None], [None, (1, 9), None], [None, (-1, 1), None],
            [None, None, (-1, 0)],
        ):
            kept = list(start)
            error_of(InvalidDealing, greatest_dealing, pool, start=start)
            self.assertEqual(start, kept)
        error_of(InvalidDealing, greatest_dealing, Pool([1], []), start=[None])
        error_of(InvalidDealing, greatest_dealing, Pool([1], [[]]), start=[])
        self.assertEqual(greatest_dealing(Pool([1], []), start=[]), [])

    def test_new_lists(self):
        pool = Pool([1, 1], [[0, 1]])
        start = [P]
        dealing = greatest_dealing(pool, start=start)
        dealing[0] = None
        self.assertEqual(start, [P])
        greatest_dealing(pool).clear()
        self.assertEqual(greatest_dealing(pool), [P])

    def test_great_caps(self):
        pool = Pool([10 ** 60 - 1] * 2, [[0, 1]] * 60)
        self.assertEqual(greatest_dealing(pool), [P] * 60)

    def test_time(self):
        for pool in greatest_pools():
            self.assertLess(seconds(greatest_dealing, pool), 1)
            self.assertLess(seconds(greatest_dealing, pool, start=[None] * 60), 1)
            self.assertLess(seconds(most_dealt, pool), 1)
            self.assertLess(seconds(is_safe, pool), 1)


class TestMost(unittest.TestCase):
    def test_most_dealt(self):
        self.assertEqual(most_dealt(Pool([1], [])), 0)
        self.assertEqual(most_dealt(Pool([2, 3], [[0, 1]] * 4)), 2)
        self.assertEqual(most_dealt(Pool([1, 1, 1], [[0, 1], [0, 1], [0, 1, 2]])), 2)

    def test_safe_pools(self):
        for pool in (
            Pool([1], []), Pool([0], []), Pool([1, 1], [[0, 1]]), Pool([2, 2], [[0, 1]] * 2),
            Pool([1, 1, 1], [[0, 1, 2]] * 3),
        ):
            self.assertIs(is_safe(pool), True)

    def test_pools_that_are_not_safe(self):
        for pool in (
            Pool([1], [[]]), Pool([9], [[0]]), Pool([9, 9], [[0, 1], [1]]), Pool([9, 9], [[0, 1], []]),
            Pool([0, 9], [[0, 1]]), Pool([2, 2], [[0, 1]] * 3), Pool([1, 1, 1], [[0, 1, 2]] * 4),
        ):
            self.assertIs(is_safe(pool), False)

    def test_against_the_lots(self):
        for pool in many_pools(200, 8):
            undealt = counting.greatest_lack(pool)
            self.assertEqual(most_dealt(pool), pool.pieces - undealt)
            self.assertIs(is_safe(pool), undealt == 0)


class TestFirst(unittest.TestCase):
    def test_example(self):
        self.assertEqual(first_dealing(Pool([1, 1, 1], [[0, 1], [0, 1], [0, 1, 2]])), [P, None, Q])

    def test_ordinary(self):
        self.assertEqual(first_dealing(Pool([1], [])), [])
        self.assertEqual(first_dealing(Pool([1, 1], [[], [0, 1]])), [None, P])
        self.assertEqual(first_dealing(Pool([1, 1, 1], [[0, 1, 2]] * 4)), [P, Q, R, None])
        self.assertEqual(first_dealing(Pool([1, 1, 1], [[0, 1, 2], [0, 1]])), [Q, P])
        self.assertEqual(first_dealing(Pool([2, 2, 2], [[0, 1, 2], [0, 1]])), [P, P])
        self.assertEqual(first_dealing(Pool([0, 1, 1], [[0, 1, 2]])), [R])

    def test_against_all_dealings(self):
        pools = many_pools(150, 23) + many_pools(150, 231, seats=4, pieces=5, cap=1)
        pools += many_pools(100, 232, seats=3, pieces=6, cap=2)
        # In this one a place becomes free that a later piece likes better than its own.
        pools.append(Pool([1, 2, 1, 1, 1, 0], [range(6), [0, 1, 3], range(6), [0, 1, 5], [0, 2, 5]]))
        for pool in pools:
            most = counting.count_most(pool)
            greatest = [row for row in counting.all_dealings(pool) if len(counting.dealt(row)) == most]
            self.assertEqual(first_dealing(pool), min(greatest, key=counting.order))

    def test_all_pools_of_three_seats_and_pieces(self):
        rows = [row for many in range(4) for row in itertools.combinations(range(3), many)]
        for holders in itertools.product(rows, repeat=3):
            pool = Pool([1, 1, 1], holders)
            most = counting.count_most(pool)
            greatest = [row for row in counting.all_dealings(pool) if len(counting.dealt(row)) == most]
            self.assertEqual(first_dealing(pool), min(greatest, key=counting.order))

    def test_time(self):
        dice = random.Random(23)
        rows = [[range(12)] * 16, [[at % 11, at % 11 + 1] for at in range(16)]]
        rows += [[dice.sample(range(12), many) for _ in range(16)] for many in range(2, 12)]
        # The later half holds what the first half would take first.
        rows.append([range(12)] * 8 + [range(6)] * 8)
        rows.append([range(12)] * 8 + [[at, at + 1] for at in range(8)])
        # Every pair but the last is wanted by a later piece that has no other.
        rows.append([range(6)] + [list(pair) for pair in itertools.combinations(range(6), 2)][:14])
        for holders in rows:
            for caps in ([1] * 12, [10 ** 60 - 1] * 12, [0, 1, 2, 3] * 3, [3] * 3 + [1] * 9, [1] * 6 + [0] * 6):
                self.assertLess(seconds(first_dealing, Pool(caps, [tuple(row) for row in holders])), 1)
