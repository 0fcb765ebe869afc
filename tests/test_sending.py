"""Points 38 and 39."""

import itertools
import random
import unittest

import counting
from pairwarden.dealer import first_dealing, is_safe, most_dealt
from pairwarden.errors import Unsafe
from pairwarden.lots import least_lot
from pairwarden.pool import Pool
from pairwarden.rounds import after_loss, keeps_safe
from pairwarden.sending import droppable, least_sends, needed_pieces, thinned
from samples import error_of, many_pools, same, seconds


def without_copy(pool, piece, seat):
    rows = [list(row) for row in pool.holders]
    rows[piece].remove(seat)
    return Pool(pool.caps, rows)


def safe_pools(count, seed, **sizes):
    return [pool for pool in many_pools(count, seed, **sizes) if counting.is_full(pool)]


class TestSends(unittest.TestCase):
    def test_example(self):
        self.assertEqual(needed_pieces(Pool([1, 1, 1], [[0, 1, 2], [0, 1]]), 0), [1])

    def test_ordinary(self):
        pool = Pool([1, 1, 1], [[0, 1, 2], [0, 1]])
        self.assertEqual([least_sends(pool, 0), least_sends(pool, 1)], [[(1, 1)], [(1, 0)]])
        self.assertIn(least_sends(pool, 2), [[(0, 0)], [(0, 1)]])
        self.assertEqual(needed_pieces(pool, 2), [0])
        wide = Pool([2, 2, 2], [[0, 1, 2], [0, 1]])
        self.assertEqual([least_sends(wide, 2), needed_pieces(wide, 2)], [[], []])
        self.assertEqual([least_sends(Pool([0], []), 0), needed_pieces(Pool([0], []), 0)], [[], []])
        tight = Pool([1, 1, 1], [[0, 1, 2]] * 3)
        # Two of the three are sent, but none of them has to be.
        self.assertEqual([len(least_sends(tight, 0)), needed_pieces(tight, 0)], [2, []])
        pair = Pool([2, 2, 0], [[0, 1], [0, 1, 2]])
        self.assertEqual([sorted(least_sends(pair, 1)), needed_pieces(pair, 1)], [[(0, 0), (1, 0)], [0, 1]])

    def test_against_all_lists_of_sends(self):
        pools = safe_pools(120, 38) + safe_pools(250, 381, cap=1) + safe_pools(60, 382, seats=3, pieces=6)
        for pool in pools:
            for seat in range(pool.seats):
                good = counting.sends_that_keep(pool, seat)
                sends = least_sends(pool, seat)
                self.assertIn(sorted(sends), good)
                self.assertIs(keeps_safe(pool, seat, sends), True)
                self.assertEqual(len(sends), min(map(len, good)))
                self.assertEqual(len(sends), pool.pieces - most_dealt(after_loss(pool, seat)))
                in_all = set.intersection(*[{piece for piece, _ in row} for row in good])
                self.assertEqual(needed_pieces(pool, seat), sorted(in_all))

    def test_left_out_one_by_one(self):
        dice = random.Random(383)
        for pool in safe_pools(60, 383):
            for seat in range(pool.seats):
                good = counting.sends_that_keep(pool, seat)
                sends = dice.choice(good)
                shorter = [[send for send in sends if send != left] for left in sends]
                while any(row in good for row in shorter):
                    sends = dice.choice([row for row in shorter if row in good])
                    shorter = [[send for send in sends if send != left] for left in sends]
                self.assertEqual(len(sends), len(least_sends(pool, seat)))


class TestCopies(unittest.TestCase):
    def test_droppable(self):
        pool = Pool([1, 1, 1], [[0, 1, 2], [0, 1]])
        self.assertEqual(droppable(pool), [(0, 0), (0, 1)])
        self.assertEqual(droppable(Pool([2, 2, 2], [[0, 1, 2], [0, 1]])), [(0, 0), (0, 1), (0, 2)])
        self.assertEqual(droppable(Pool([1, 1, 1], [[0, 1], [1, 2]])), [])
        self.assertEqual(droppable(Pool([1, 1, 0], [[0, 1, 2]])), [(0, 2)])
        self.assertEqual(droppable(Pool([0], [])), [])

    def test_each_pool_without_one_copy(self):
        for pool in safe_pools(300, 39) + safe_pools(200, 391, cap=1):
            copies = [(piece, seat) for piece, row in enumerate(pool.holders) for seat in row]
            wanted = [copy for copy in copies if counting.is_full(without_copy(pool, *copy))]
            self.assertEqual(droppable(pool), wanted)
            if not wanted:
                self.assertTrue(all(len(row) == 2 for row in pool.holders))

    def test_thinned(self):
        pool = Pool([1, 1, 1], [[0, 1, 2], [0, 1]])
        self.assertEqual([thinned(pool).caps, thinned(pool).holders], [(1, 1, 1), ((0, 2), (0, 1))])
        self.assertEqual(thinned(Pool([2, 2, 2], [[0, 1, 2], [0, 1]])).holders, ((0, 1), (0, 1)))
        self.assertEqual(thinned(Pool([0], [])).holders, ())
        for pool in safe_pools(300, 392):
            after = thinned(pool)
            self.assertTrue(same(after, Pool(pool.caps, first_dealing(pool))))
            self.assertEqual(droppable(after), [])
            self.assertTrue(is_safe(after))


class TestUnsafe(unittest.TestCase):
    def test_pools_that_are_not_safe(self):
        pools = [pool for pool in many_pools(150, 393) if not counting.is_full(pool)]
        pools += [Pool([1], [[]]), Pool([9], [[0]]), Pool([0, 9], [[0, 1]]), Pool([1, 1], [[0, 1]] * 2)]
        for pool in pools:
            lot = least_lot(pool)
            self.assertGreater(len(lot), 0)
            self.assertEqual(error_of(Unsafe, droppable, pool).lot, lot)
            self.assertEqual(error_of(Unsafe, thinned, pool).lot, lot)
            for seat in range(pool.seats):
                self.assertEqual(error_of(Unsafe, least_sends, pool, seat).lot, lot)
                self.assertEqual(error_of(Unsafe, needed_pieces, pool, seat).lot, lot)


class TestLists(unittest.TestCase):
    def test_new_lists(self):
        pool = Pool([2, 2, 2], [[0, 1, 2], [0, 1]])
        for call in (lambda: least_sends(pool, 0), lambda: needed_pieces(pool, 0), lambda: droppable(pool)):
            first = call()
            kept = list(first)
            first.append(None)
            self.assertEqual(call(), kept)
        self.assertEqual(pool.holders, ((0, 1, 2), (0, 1)))

    def test_time(self):
        rows = [range(12)] * 16
        pairs = list(itertools.combinations(range(12), 2))
        for caps, holders in (
            ([1] * 12, rows), ([10 ** 60 - 1] * 12, rows), ([0] * 6 + [1] * 6, [range(12)] * 15),
            ([1] * 12, pairs[:16]), ([4] * 12, [range(4)] * 16), ([1] * 6, [range(6)] * 15),
            ([1] * 6, [range(6)] * 15 + [range(6)]), ([1] * 12, [range(12)] * 8 + pairs[:8]),
        ):
            pool = Pool(caps, [tuple(row) for row in holders])
            for call in (
                lambda: least_sends(pool, 0), lambda: needed_pieces(pool, 0), lambda: droppable(pool),
                lambda: thinned(pool),
            ):
                self.assertLess(seconds(quiet, call), 1)


def quiet(call):
    """Make a call that may find the pool not safe."""
    try:
        call()
    except Unsafe:
        pass
