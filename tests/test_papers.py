"""Points 7, 8, 16, 17 and 18."""

import itertools
import unittest

import counting
from pairwarden.dealer import greatest_dealing
from pairwarden.papers import is_dealing, is_greatest, is_lot, lot_lack, lot_pairs
from pairwarden.pool import Pool
from samples import greatest_pools, many_pools, seconds

POOL = Pool([1, 2, 2, 0], [[0, 1], [0, 1, 2], [1, 2], [1, 2, 3], [3], []])
NONE = [None] * 6


def with_pairs(**pairs):
    """The dealing of POOL that deals some pieces: p0=(0, 1) deals piece 0."""
    dealing = list(NONE)
    for name, pair in pairs.items():
        dealing[int(name[1:])] = pair
    return dealing


class TestDealings(unittest.TestCase):
    def test_good_ones(self):
        for dealing in (
            NONE,
            with_pairs(p0=(0, 1)),
            with_pairs(p1=(0, 1)),
            with_pairs(p0=(0, 1), p1=(0, 2), p2=(1, 2), p3=(1, 2)),
            with_pairs(p1=(1, 2), p3=(1, 2)),
        ):
            self.assertIs(is_dealing(POOL, dealing), True, dealing)

    def test_wrong_lengths(self):
        for dealing in ([], NONE[:5], NONE + [None], NONE * 2, with_pairs(p0=(0, 1)) + [None], [(0, 1)]):
            self.assertIs(is_dealing(POOL, dealing), False, dealing)
        self.assertIs(is_dealing(Pool([1], []), []), True)
        self.assertIs(is_dealing(Pool([1], []), [None]), False)
        self.assertIs(is_dealing(Pool([1], [[]]), []), False)

    def test_wrong_pairs(self):
        for pair in (
            (1, 0), (0, 0), (1, 1), (0, 2), (1, 2), (2, 1), (0, 4), (4, 5), (-1, 0), (-1, 1), (0, -3), (-2, -1),
            (10 ** 60, 0), (0, 10 ** 60),
        ):
            self.assertIs(is_dealing(POOL, with_pairs(p0=pair)), False, pair)
        self.assertIs(is_dealing(POOL, with_pairs(p4=(3, 3))), False)
        self.assertIs(is_dealing(POOL, with_pairs(p5=(0, 1))), False)
        self.assertIs(is_dealing(POOL, with_pairs(p0=(0, 1), p5=(0, 1))), False)

    def test_more_pieces_than_room(self):
        self.assertIs(is_dealing(POOL, with_pairs(p0=(0, 1), p1=(0, 1))), False)
        self.assertIs(is_dealing(POOL, with_pairs(p1=(1, 2), p2=(1, 2), p3=(1, 2))), False)
        self.assertIs(is_dealing(POOL, with_pairs(p3=(1, 3))), False)
        self.assertIs(is_dealing(Pool([0, 0], [[0, 1]]), [(0, 1)]), False)

    def test_the_same_list_again_after_a_change(self):
        dealing = with_pairs(p0=(0, 1))
        self.assertIs(is_dealing(POOL, dealing), True)
        dealing[1] = (0, 1)
        self.assertIs(is_dealing(POOL, dealing), False)
        dealing[0] = None
        self.assertIs(is_dealing(POOL, dealing), True)
        dealing.append(None)
        self.assertIs(is_dealing(POOL, dealing), False)

    def test_against_all_dealings(self):
        for pool in many_pools(60, 17, seats=3, pieces=3, cap=2):
            entries = [None, (1, 0), (-1, 0)] + list(itertools.combinations(range(4), 2))
            good = counting.all_dealings(pool)
            for row in itertools.product(entries, repeat=pool.pieces):
                self.assertIs(is_dealing(pool, list(row)), list(row) in good)


class TestLots(unittest.TestCase):
    def test_example(self):
        self.assertEqual(lot_lack(Pool([1, 1, 1], [[0, 1], [0, 1], [0, 1, 2]]), [0, 1]), 1)

    def test_is_lot(self):
        for lot in ([], [0], [5], [0, 5], [0, 1, 2, 3, 4, 5], [2, 4]):
            self.assertIs(is_lot(POOL, lot), True, lot)
        for lot in ([6], [-1], [-1, 0], [0, 0], [1, 0], [0, 2, 1], [0, 1, 1], [3, 6], [10 ** 60], [-10 ** 60, 1]):
            self.assertIs(is_lot(POOL, lot), False, lot)
        self.assertIs(is_lot(Pool([1], []), []), True)
        self.assertIs(is_lot(Pool([1], []), [0]), False)

    def test_the_same_list_again_after_a_change(self):
        lot = [0, 1]
        self.assertIs(is_lot(POOL, lot), True)
        self.assertEqual(lot_lack(POOL, lot), -2)
        lot.append(1)
        self.assertIs(is_lot(POOL, lot), False)
        lot[1:] = []
        self.assertIs(is_lot(POOL, lot), True)
        self.assertEqual(lot_lack(POOL, lot), 0)

    def test_pairs_and_lack(self):
        self.assertEqual(lot_pairs(POOL, []), [])
        self.assertEqual(lot_lack(POOL, []), 0)
        self.assertEqual(lot_pairs(POOL, [4, 5]), [])
        self.assertEqual(lot_lack(POOL, [4, 5]), 2)
        self.assertEqual(lot_pairs(POOL, [0, 1, 2]), [(0, 1), (0, 2), (1, 2)])
        self.assertEqual(lot_lack(POOL, [0, 1, 2]), -1)
        self.assertEqual(lot_pairs(POOL, [2, 3]), [(1, 2)])
        self.assertEqual(lot_lack(POOL, [2, 3]), 0)
        great = Pool([10 ** 60 - 1] * 2, [[0, 1]])
        self.assertEqual(lot_lack(great, [0]), 2 - 10 ** 60)

    def test_against_counting(self):
        for pool in many_pools(100, 16):
            for lot in counting.all_lots(pool):
                self.assertIs(is_lot(pool, lot), True)
                self.assertEqual(lot_pairs(pool, lot), counting.count_pairs(pool, lot))
                self.assertEqual(lot_lack(pool, lot), counting.count_lack(pool, lot))

    def test_new_lists(self):
        pairs = lot_pairs(POOL, [2])
        pairs.clear()
        self.assertEqual(lot_pairs(POOL, [2]), [(1, 2)])


class TestGreatest(unittest.TestCase):
    def test_ordinary(self):
        pool = Pool([1, 1, 1], [[0, 1], [0, 1], [0, 1, 2]])
        self.assertIs(is_greatest(pool, [(0, 1), None, (0, 2)], [0, 1]), True)
        self.assertIs(is_greatest(pool, [None, (0, 1), (1, 2)], [0, 1]), True)
        self.assertIs(is_greatest(pool, [(0, 1), None, (0, 2)], [0]), False)
        self.assertIs(is_greatest(pool, [(0, 1), None, (0, 2)], []), False)
        self.assertIs(is_greatest(pool, [(0, 1), None, None], [0, 1]), False)
        self.assertIs(is_greatest(pool, [None, None, (0, 1)], [0, 1]), False)
        full = Pool([1, 1], [[0, 1]])
        self.assertIs(is_greatest(full, [(0, 1)], []), True)
        self.assertIs(is_greatest(full, [(0, 1)], [0]), True)
        self.assertIs(is_greatest(Pool([1], []), [], []), True)

    def test_wrong_arguments(self):
        # The number of undealt pieces equals the lack in each row, or would do so.
        pool = Pool([1, 1, 1], [[0, 1], [0, 1], [0, 1, 2]])
        good = [(0, 1), None, (0, 2)]
        for dealing, lot in (
            (good, [1, 0]), (good, [0, 0]), (good, [0, 3]), (good, [-1]), (good, [0, 1, 1]),
            ([(0, 1), None], [0, 1]), ([(0, 1), None, (0, 2), (0, 1)], [0, 1]), ([], []), ([None], [0, 1]),
            ([(1, 0), None, (0, 2)], [0, 1]), ([(0, 0), None, (0, 2)], [0, 1]), ([(0, 1), None, (0, 9)], [0, 1]),
            ([(0, 2), None, (0, 2)], [0, 1]), ([(0, 1), None, (0, 1)], [0, 1]), ([(-1, 1), None, (0, 2)], [0, 1]),
            ([(0, 1), (0, 1), (0, 2)], []), ([], [5]), ([(7, 7)] * 5, [9, 9, -9]),
        ):
            self.assertIs(is_greatest(pool, dealing, lot), False, [dealing, lot])

    def test_against_counting(self):
        for pool in many_pools(40, 18, seats=3, pieces=4, cap=2):
            most = counting.count_most(pool)
            lots = counting.all_lots(pool)
            for dealing in counting.all_dealings(pool):
                shown = [lot for lot in lots if is_greatest(pool, dealing, lot)]
                undealt = dealing.count(None)
                self.assertEqual(shown, [lot for lot in lots if counting.count_lack(pool, lot) == undealt])
                self.assertEqual(bool(shown), len(counting.dealt(dealing)) == most)
                for lot in shown:
                    self.assertEqual(counting.count_lack(pool, lot), counting.greatest_lack(pool))

    def test_greatest_lack_is_the_number_of_undealt_pieces(self):
        for pool in many_pools(150, 181):
            dealing = greatest_dealing(pool)
            self.assertEqual(counting.greatest_lack(pool), dealing.count(None))
            self.assertTrue(any(is_greatest(pool, dealing, lot) for lot in counting.all_lots(pool)))

    def test_arguments_do_not_change(self):
        dealing, lot = with_pairs(p0=(0, 1)), [0, 1]
        is_dealing(POOL, dealing), is_lot(POOL, lot), lot_pairs(POOL, lot), lot_lack(POOL, lot)
        is_greatest(POOL, dealing, lot)
        self.assertEqual([dealing, lot], [with_pairs(p0=(0, 1)), [0, 1]])

    def test_time(self):
        for pool in greatest_pools():
            dealing = greatest_dealing(pool)
            for call, given in (
                (is_dealing, [dealing]), (is_lot, [list(range(60))]), (lot_pairs, [list(range(60))]),
                (lot_lack, [list(range(60))]), (is_greatest, [dealing, list(range(60))]),
            ):
                self.assertLess(seconds(call, pool, *given), 1)
