"""Point 25."""

import random
import unittest

import counting
from pairwarden.papers import is_lot
from pairwarden.pool import Pool
from pairwarden.worth import best_lot
from samples import greatest_pools, many_pools, seconds


def collected(pool, worths):
    """The lot, collected as the point says, with a look at all sets that can be dealt."""
    sets, lot = counting.dealable_sets(pool), frozenset()
    for worth in sorted(set(worths), reverse=True):
        for piece in range(pool.pieces):
            if worths[piece] == worth and lot | {piece} in sets:
                lot |= {piece}
    return sorted(lot)


class TestBestLot(unittest.TestCase):
    def test_example(self):
        self.assertEqual(best_lot(Pool([1, 1, 1], [[0, 1], [0, 1], [0, 1, 2]]), [5, 7, 1]), [1, 2])

    def test_ordinary(self):
        self.assertEqual(best_lot(Pool([1], []), []), [])
        self.assertEqual(best_lot(Pool([1], [[0], []]), [3, 4]), [])
        one_place = Pool([1, 1], [[0, 1]] * 3)
        self.assertEqual(best_lot(one_place, [1, 2, 3]), [2])
        self.assertEqual(best_lot(one_place, [3, 2, 1]), [0])
        self.assertEqual(best_lot(one_place, [2, 3, 3]), [1])
        self.assertEqual(best_lot(one_place, [0, 0, 0]), [0])
        self.assertEqual(best_lot(one_place, [10 ** 40 - 2, 10 ** 40 - 1, 0]), [1])
        two_places = Pool([2, 2], [[0, 1]] * 4)
        self.assertEqual(best_lot(two_places, [1, 5, 1, 1]), [0, 1])

    def test_worth_0_joins_too(self):
        self.assertEqual(best_lot(Pool([2, 2], [[0, 1]] * 2), [0, 0]), [0, 1])

    def test_dealt_pieces_make_way(self):
        # Piece 0 comes first and could take the only pair of piece 1.
        pool = Pool([1, 1, 1], [[0, 1, 2], [0, 1], [0, 2], [1, 2]])
        self.assertEqual(best_lot(pool, [9, 8, 7, 1]), [0, 1, 2])

    def test_against_the_way_of_collecting(self):
        dice = random.Random(25)
        for pool in many_pools(200, 25):
            for most in (0, 2, 10 ** 40 - 1):
                worths = [dice.randint(0, most) for _ in range(pool.pieces)]
                kept = list(worths)
                lot = best_lot(pool, worths)
                self.assertTrue(is_lot(pool, lot))
                self.assertEqual(lot, collected(pool, worths))
                self.assertEqual(worths, kept)

    def test_nothing_is_worth_more(self):
        dice = random.Random(251)
        for pool in many_pools(80, 251):
            worths = [dice.randint(0, 4) for _ in range(pool.pieces)]
            lot = best_lot(pool, worths)
            for pieces in counting.dealable_sets(pool):
                self.assertLessEqual(sum(worths[piece] for piece in pieces), sum(worths[piece] for piece in lot))
                for least in range(6):
                    many = len([piece for piece in pieces if worths[piece] >= least])
                    self.assertLessEqual(many, len([piece for piece in lot if worths[piece] >= least]))

    def test_a_new_list_each_time(self):
        pool = Pool([1, 1], [[0, 1]])
        best_lot(pool, [1]).clear()
        self.assertEqual(best_lot(pool, [1]), [0])

    def test_time(self):
        for pool in greatest_pools():
            for worths in ([10 ** 40 - 1] * 60, list(range(60)), [10 ** 40 - 1 - at for at in range(60)]):
                self.assertLess(seconds(best_lot, pool, worths), 1)
