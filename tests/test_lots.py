"""Points 26 and 27."""

import itertools
import random
import unittest

import counting
from pairwarden.dealer import is_safe, most_dealt
from pairwarden.lots import greatest_lot, least_lot, may_put, open_pairs
from pairwarden.papers import is_lot, lot_lack
from pairwarden.pool import Pool
from samples import greatest_pools, many_pools, seconds

EXAMPLE = Pool([1, 1, 1], [[0, 1], [0, 1], [0, 1, 2]])


def lots_of_greatest_lack(pool):
    most = counting.greatest_lack(pool)
    return [lot for lot in counting.all_lots(pool) if counting.count_lack(pool, lot) == most]


def open_by_the_words(pool, lot):
    held = counting.count_pairs(pool, lot)
    pairs = itertools.combinations(range(pool.seats), 2)
    return [pair for pair in pairs if counting.room_of(pool, pair) >= 1 and pair not in held]


class TestLots(unittest.TestCase):
    def test_example(self):
        self.assertEqual([least_lot(EXAMPLE), open_pairs(EXAMPLE)], [[0, 1], [(0, 2), (1, 2)]])
        self.assertEqual(greatest_lot(EXAMPLE), [0, 1])

    def test_against_all_lots(self):
        pools = many_pools(250, 26) + many_pools(150, 261, cap=1) + many_pools(60, 262, seats=3, pieces=7)
        for pool in pools:
            lots = lots_of_greatest_lack(pool)
            least, greatest = least_lot(pool), greatest_lot(pool)
            self.assertIn(least, lots)
            self.assertIn(greatest, lots)
            for lot in lots:
                self.assertLessEqual(set(least), set(lot))
                self.assertLessEqual(set(lot), set(greatest))

    def test_safe_pools(self):
        for pool in many_pools(200, 263):
            self.assertEqual(least_lot(pool) == [], is_safe(pool))
        self.assertEqual([least_lot(Pool([1], [])), greatest_lot(Pool([1], []))], [[], []])
        # A lot whose places are all taken lacks as little as the empty lot.
        full = Pool([1, 1, 1], [[0, 1], [0, 1, 2]])
        self.assertEqual([least_lot(full), greatest_lot(full)], [[], [0]])
        tight = Pool([1, 1, 1], [[0, 1, 2]] * 3)
        self.assertEqual([least_lot(tight), greatest_lot(tight)], [[], [0, 1, 2]])

    def test_pieces_without_pairs(self):
        pool = Pool([1, 1, 0], [[], [0, 1], [1], [0, 2], [0, 1, 2], []])
        self.assertEqual(least_lot(pool), [0, 1, 2, 3, 4, 5])
        pool = Pool([2, 2, 0], [[], [0, 1], [1], [0, 2], [0, 1, 2], []])
        self.assertEqual([least_lot(pool), greatest_lot(pool)], [[0, 2, 3, 5], [0, 1, 2, 3, 4, 5]])
        pool = Pool([3, 3, 0], [[], [0, 1], [1], [0, 2], [0, 1, 2], []])
        self.assertEqual([least_lot(pool), greatest_lot(pool)], [[0, 2, 3, 5], [0, 2, 3, 5]])
        self.assertEqual([least_lot(Pool([9], [[0], []])), greatest_lot(Pool([9], [[0], []]))], [[0, 1], [0, 1]])

    def test_a_chain_of_pairs(self):
        # Piece 0 is left over or makes the next one leave its pair, and so on to the last.
        rows = [[0, 1]] + [[0, at, at + 1] for at in range(1, 6)]
        pool = Pool([1] * 7, rows + [[0, 1]])
        lacking = lots_of_greatest_lack(pool)
        self.assertIn(least_lot(pool), lacking)
        self.assertIn(greatest_lot(pool), lacking)

    def test_greatest_pools(self):
        for pool in greatest_pools():
            undealt = pool.pieces - most_dealt(pool)
            for lot in (least_lot(pool), greatest_lot(pool)):
                self.assertTrue(is_lot(pool, lot))
                self.assertEqual(lot_lack(pool, lot), undealt)
            self.assertLessEqual(set(least_lot(pool)), set(greatest_lot(pool)))

    def test_new_lists(self):
        for call in (least_lot, greatest_lot, open_pairs):
            first = call(EXAMPLE)
            kept = list(first)
            first.clear()
            self.assertIs(first.__class__, list)
            self.assertEqual(call(EXAMPLE), kept)

    def test_time(self):
        for pool in greatest_pools():
            for call in (least_lot, greatest_lot, open_pairs):
                self.assertLess(seconds(call, pool), 1)
            self.assertLess(seconds(may_put, pool, list(range(12))), 1)


class TestOpenPairs(unittest.TestCase):
    def test_by_the_words(self):
        for pool in many_pools(250, 27) + many_pools(150, 271, cap=1):
            greatest = max(lots_of_greatest_lack(pool), key=len)
            self.assertEqual(open_pairs(pool), open_by_the_words(pool, greatest))

    def test_pairs_that_no_piece_holds(self):
        self.assertEqual(open_pairs(Pool([1, 1, 1], [])), [(0, 1), (0, 2), (1, 2)])
        self.assertEqual(open_pairs(Pool([1, 1, 1], [[0, 1]])), [(0, 2), (1, 2)])
        self.assertEqual(open_pairs(Pool([2, 2, 2], [[0, 1]])), [(0, 1), (0, 2), (1, 2)])
        self.assertEqual(open_pairs(Pool([5], [[0]])), [])

    def test_pairs_without_room(self):
        self.assertEqual(open_pairs(Pool([0, 0], [[0, 1]])), [])
        self.assertEqual(open_pairs(Pool([1, 0, 1], [[0, 1]])), [(0, 2)])
        self.assertEqual(open_pairs(Pool([0, 3, 2, 0], [[1, 2]])), [(1, 2)])

    def test_a_pair_that_opens_another_one(self):
        # Both pieces can move on from (0, 1), but only one of them has a free pair to go to.
        pool = Pool([1, 1, 1, 1], [[0, 1, 2], [0, 2, 3], [0, 3]])
        greatest = max(lots_of_greatest_lack(pool), key=len)
        self.assertEqual(open_pairs(pool), open_by_the_words(pool, greatest))
        self.assertIn((0, 2), open_pairs(pool))


class TestMayPut(unittest.TestCase):
    def test_against_most_dealt(self):
        for pool in many_pools(150, 272) + many_pools(100, 273, cap=1):
            pairs = open_pairs(pool)
            for many in range(pool.seats + 1):
                for holders in itertools.permutations(range(pool.seats), many):
                    given = list(holders)
                    answer = may_put(pool, given)
                    after = Pool(pool.caps, pool.holders + (holders,))
                    self.assertIs(answer, most_dealt(after) == most_dealt(pool) + 1)
                    self.assertEqual(answer, any(set(pair) <= set(holders) for pair in pairs))
                    self.assertEqual(given, list(holders))

    def test_few_holders(self):
        pool = Pool([9, 9], [])
        self.assertIs(may_put(pool, []), False)
        self.assertIs(may_put(pool, [0]), False)
        self.assertIs(may_put(pool, [1]), False)
        self.assertIs(may_put(pool, [1, 0]), True)
        self.assertIs(may_put(pool, [0, 1]), True)

    def test_full_pairs(self):
        self.assertIs(may_put(EXAMPLE, [1, 0]), False)
        self.assertIs(may_put(EXAMPLE, [2, 1]), True)
        self.assertIs(may_put(EXAMPLE, [2, 0, 1]), True)
        self.assertIs(may_put(Pool([0, 5], []), [0, 1]), False)

    def test_greatest_pools(self):
        dice = random.Random(274)
        for pool in greatest_pools():
            most = most_dealt(pool)
            for many in (2, 3, 12):
                holders = dice.sample(range(12), many)
                after = Pool(pool.caps, pool.holders + (holders,))
                self.assertIs(may_put(pool, holders), most_dealt(after) == most + 1)
