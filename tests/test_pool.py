"""Points 2, 4, 5 and 6."""

import itertools
import unittest

from pairwarden.errors import InvalidPool
from pairwarden.pool import Pool, held_pairs, pair_room
from samples import error_of, greatest_pools, many_pools, seconds


def fault(caps, holders):
    return error_of(InvalidPool, Pool, caps, holders).piece


class TestPool(unittest.TestCase):
    def test_example(self):
        pool = Pool([2, 1], [[1, 0], []])
        self.assertEqual([pool.caps, pool.holders], [(2, 1), ((0, 1), ())])
        self.assertEqual([pool.seats, pool.pieces], [2, 2])

    def test_lists_and_tuples_give_the_same(self):
        for caps, holders in itertools.product(
            ([3, 0, 7], (3, 0, 7)),
            ([[2, 0], [], [1]], ((2, 0), (), (1,)), [(0, 2), [], [1]], ([0, 2], (), (1,))),
        ):
            pool = Pool(caps, holders)
            self.assertEqual(pool.caps, (3, 0, 7))
            self.assertEqual(pool.holders, ((0, 2), (), (1,)))
            self.assertIsInstance(pool.caps, tuple)
            self.assertIsInstance(pool.holders, tuple)
            self.assertTrue(all(isinstance(row, tuple) for row in pool.holders))

    def test_holders_in_any_order(self):
        for row in itertools.permutations(range(4)):
            self.assertEqual(Pool([1] * 4, [row]).holders, ((0, 1, 2, 3),))

    def test_later_changes_have_no_effect(self):
        caps, holders = [1, 2], [[1, 0], [0]]
        pool = Pool(caps, holders)
        caps[0] = 9
        caps.append(5)
        holders[0].clear()
        holders[1].append(1)
        holders.append([0])
        self.assertEqual([pool.caps, pool.holders], [(1, 2), ((0, 1), (0,))])
        self.assertEqual([pool.seats, pool.pieces], [2, 2])

    def test_the_arguments_are_not_changed(self):
        caps, holders = [1, 2], [[1, 0], [0]]
        Pool(caps, holders)
        self.assertEqual([caps, holders], [[1, 2], [[1, 0], [0]]])

    def test_least_pools(self):
        self.assertEqual(Pool([0], []).caps, (0,))
        self.assertEqual(Pool((0,), ()).pieces, 0)
        self.assertEqual(Pool([0], [[0]]).holders, ((0,),))

    def test_no_seats(self):
        for caps, holders in (([], []), ((), ()), ([], [[0]]), ([], [[]])):
            self.assertIsNone(fault(caps, holders))

    def test_a_cap_below_0(self):
        for caps in ([-1], [0, -1], [-5, 2, 3], (1, -1, 1)):
            self.assertIsNone(fault(caps, []))
            self.assertIsNone(fault(caps, [[9]]))
            self.assertIsNone(fault(caps, [[0, 0]]))

    def test_the_first_wrong_piece_is_told(self):
        self.assertEqual(fault([1, 1], [[2]]), 0)
        self.assertEqual(fault([1, 1], [[0], [0, 2]]), 1)
        self.assertEqual(fault([1, 1], [[-1]]), 0)
        self.assertEqual(fault([1, 1], [[], [1], [0, -1]]), 2)
        self.assertEqual(fault([1, 1], [[0, 0]]), 0)
        self.assertEqual(fault([1, 1], [[0, 1], [1, 0, 1]]), 1)
        self.assertEqual(fault([1, 1], [[1, 0], (1, 1), [5], [-1]]), 1)
        self.assertEqual(fault([1, 1], ((1, 0), (7,), (0, 0))), 1)
        self.assertEqual(fault([1], [[10 ** 59]]), 0)
        self.assertEqual(fault([1, 1, 1], [[-3, 0, 1]]), 0)

    def test_pools_at_the_bounds(self):
        for pool in greatest_pools():
            self.assertEqual([pool.seats, pool.pieces], [12, 60])
            self.assertLess(seconds(Pool, pool.caps, pool.holders), 1)


class TestPairs(unittest.TestCase):
    def test_room_is_the_smaller_cap(self):
        pool = Pool([5, 2, 0, 10 ** 60 - 1], [])
        rooms = {(0, 1): 2, (0, 2): 0, (0, 3): 5, (1, 2): 0, (1, 3): 2, (2, 3): 0}
        for pair, room in rooms.items():
            self.assertEqual(pair_room(pool, pair), room)
        self.assertEqual(pair_room(Pool([10 ** 60 - 1] * 2, []), (0, 1)), 10 ** 60 - 1)
        self.assertEqual(pair_room(Pool([3, 3], []), (0, 1)), 3)

    def test_held_pairs(self):
        pool = Pool([1, 2, 0, 3], [[3, 1, 0], [0, 1, 2, 3], [2, 0], [1], []])
        self.assertEqual(held_pairs(pool, 0), [(0, 1), (0, 3), (1, 3)])
        self.assertEqual(held_pairs(pool, 1), [(0, 1), (0, 3), (1, 3)])
        self.assertEqual(held_pairs(pool, 2), [])
        self.assertEqual(held_pairs(pool, 3), [])
        self.assertEqual(held_pairs(pool, 4), [])

    def test_held_pairs_by_the_words_of_the_point(self):
        for pool in many_pools(200, 6):
            for piece in range(pool.pieces):
                wanted = [
                    pair for pair in itertools.combinations(range(pool.seats), 2)
                    if set(pair) <= set(pool.holders[piece]) and pair_room(pool, pair) >= 1
                ]
                self.assertEqual(held_pairs(pool, piece), wanted)

    def test_a_new_list_each_time(self):
        pool = Pool([1, 1, 1], [[0, 1, 2]])
        first = held_pairs(pool, 0)
        first.clear()
        self.assertEqual(held_pairs(pool, 0), [(0, 1), (0, 2), (1, 2)])
        self.assertIsNot(held_pairs(pool, 0), held_pairs(pool, 0))
        self.assertIsInstance(held_pairs(pool, 0), list)
        self.assertTrue(all(isinstance(pair, tuple) for pair in held_pairs(pool, 0)))
