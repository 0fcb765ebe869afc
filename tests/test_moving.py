"""Point 65."""

import random
import unittest

import counting
from pairwarden.dealer import greatest_dealing
from pairwarden.deeds import apply_deed
from pairwarden.errors import InvalidTarget, Unsafe
from pairwarden.lots import least_lot
from pairwarden.moving import moves, next_move
from pairwarden.pool import Pool
from pairwarden.rounds import after_round, keeps_safe, told_sends
from samples import error_of, greatest_pools, many_pools, random_sends, same, seconds


def copies(pool):
    return {(piece, seat) for piece, row in enumerate(pool.holders) for seat in row}


def safe_pairs(count, seed):
    """Safe pools and safe targets with the same caps and the same number of pieces."""
    dice = random.Random(seed)
    found = []
    for pool in many_pools(count, seed):
        if counting.is_full(pool):
            rows = [dice.sample(range(pool.seats), dice.randint(0, pool.seats)) for _ in range(pool.pieces)]
            targets = [Pool(pool.caps, rows), Pool(pool.caps, pool.holders[::-1]), pool]
            targets.append(Pool(pool.caps, [range(pool.seats)] * pool.pieces))
            found += [(pool, target) for target in targets if counting.is_full(target)]
    return found


class TestMoves(unittest.TestCase):
    def test_example(self):
        pool, target = Pool([1, 1, 1], [[0, 1]]), Pool([1, 1, 1], [[1, 2]])
        self.assertEqual(moves(pool, target), [("give", 2, (0,)), ("take", 0, (0,))])

    def test_ordinary(self):
        pool = Pool([2, 2, 2], [[0, 1, 2], [0, 1]])
        target = Pool([2, 2, 2], [[0, 1], [1, 2]])
        self.assertEqual(moves(pool, target), [("give", 2, (1,)), ("take", 2, (0,)), ("take", 0, (1,))])
        self.assertEqual(moves(target, pool), [("give", 2, (0,)), ("give", 0, (1,)), ("take", 2, (1,))])
        self.assertEqual(next_move(pool, target), ("give", 2, (1,)))
        self.assertEqual(moves(pool, pool), [])
        self.assertIsNone(next_move(pool, Pool([2, 2, 2], [[2, 1, 0], [1, 0]])))
        self.assertEqual([moves(Pool([0], []), Pool([0], [])), next_move(Pool([0], []), Pool([0], []))], [[], None])

    def test_deed_by_deed(self):
        pairs = safe_pairs(500, 65)
        self.assertGreater(len(pairs), 300)
        for pool, target in pairs:
            before = (pool.holders, target.holders)
            deeds = moves(pool, target)
            gives = [(deed[2][0], deed[1]) for deed in deeds if deed[0] == "give"]
            takes = [(deed[2][0], deed[1]) for deed in deeds if deed[0] == "take"]
            self.assertEqual(gives, sorted(copies(target) - copies(pool)))
            self.assertEqual(takes, sorted(copies(pool) - copies(target)))
            self.assertEqual([deed[0] for deed in deeds], ["give"] * len(gives) + ["take"] * len(takes))
            self.assertTrue(all(len(deed[2]) == 1 for deed in deeds))
            self.assertEqual(next_move(pool, target), deeds[0] if deeds else None)
            now = pool
            for deed in deeds:
                now = apply_deed(now, deed)
                self.assertTrue(counting.is_full(now))
            self.assertTrue(same(now, target))
            self.assertEqual((pool.holders, target.holders), before)

    def test_rounds_in_between(self):
        dice = random.Random(651)
        for pool, target in safe_pairs(120, 651):
            now = pool
            for _ in range(6):
                deed = next_move(now, target)
                now = now if deed is None else apply_deed(now, deed)
                seat = dice.randrange(now.seats)
                sends = random_sends(dice, now, seat)
                if not keeps_safe(now, seat, sends):
                    sends = told_sends(now, greatest_dealing(now), seat)
                now = after_round(now, seat, sends)
            most = len(copies(now) ^ copies(target))
            made = 0
            while next_move(now, target) is not None:
                now = apply_deed(now, next_move(now, target))
                self.assertTrue(counting.is_full(now))
                made += 1
            self.assertTrue(same(now, target))
            self.assertLessEqual(made, most)


class TestErrors(unittest.TestCase):
    def error(self, kind, pool, target):
        first = error_of(kind, moves, pool, target)
        second = error_of(kind, next_move, pool, target)
        self.assertEqual(vars(first), vars(second))
        return first

    def test_targets_that_are_no_targets(self):
        pool = Pool([1, 1, 1], [[0, 1]])
        for target in (
            Pool([1, 1, 2], [[0, 1]]), Pool([1, 1], [[0, 1]]), Pool([1, 1, 1, 1], [[0, 1]]), Pool([1, 1, 1], []),
            Pool([1, 1, 1], [[0, 1], [1, 2]]), Pool([1, 1, 0], [[0, 1]]),
        ):
            self.error(InvalidTarget, pool, target)
            self.error(InvalidTarget, target, pool)
        # Also where one of them is not safe.
        self.error(InvalidTarget, Pool([1, 1], [[0]]), Pool([1, 2], [[0, 1]]))
        self.error(InvalidTarget, Pool([1, 1], [[0, 1]]), Pool([1, 1], [[0], []]))
        self.error(InvalidTarget, Pool([0], [[]]), Pool([1], [[], []]))

    def test_pools_that_are_not_safe(self):
        safe = Pool([1, 1, 1], [[0, 1], [1, 2], [0, 2]])
        first = Pool([1, 1, 1], [[0, 1], [0, 1], [0, 1, 2]])
        second = Pool([1, 1, 1], [[0, 1, 2], [2], [0, 2]])
        self.assertEqual(self.error(Unsafe, first, safe).lot, [0, 1])
        self.assertEqual(self.error(Unsafe, safe, first).lot, [0, 1])
        self.assertEqual(self.error(Unsafe, second, safe).lot, [1])
        self.assertEqual(self.error(Unsafe, safe, second).lot, [1])
        self.assertEqual(self.error(Unsafe, first, second).lot, [0, 1])
        self.assertEqual(self.error(Unsafe, second, first).lot, [1])
        self.assertEqual(self.error(Unsafe, first, first).lot, [0, 1])

    def test_the_least_lot_is_told(self):
        dice = random.Random(652)
        for pool in many_pools(200, 652):
            if not counting.is_full(pool):
                rows = [dice.sample(range(pool.seats), dice.randint(0, pool.seats)) for _ in range(pool.pieces)]
                other = Pool(pool.caps, rows)
                self.assertEqual(self.error(Unsafe, pool, other).lot, least_lot(pool))
                lot = least_lot(pool) if counting.is_full(other) else least_lot(other)
                self.assertEqual(self.error(Unsafe, other, pool).lot, lot)

    def test_new_lists(self):
        pool, target = Pool([1, 1, 1], [[0, 1]]), Pool([1, 1, 1], [[1, 2]])
        moves(pool, target).clear()
        self.assertEqual(len(moves(pool, target)), 2)
        bad = Pool([1, 1, 1], [[]])
        self.error(Unsafe, bad, target).lot.append(9)
        self.assertEqual(self.error(Unsafe, bad, target).lot, [0])

    def test_time(self):
        for pool in greatest_pools():
            for rows in ([range(12)] * 60, [(at % 11, at % 11 + 1) for at in range(60)], pool.holders):
                target = Pool(pool.caps, [tuple(row) for row in rows])
                for call in (moves, next_move):
                    self.assertLess(seconds(quiet, call, pool, target), 1)
                    self.assertLess(seconds(quiet, call, target, pool), 1)


def quiet(call, *args):
    """Make a call that may find a pool not safe."""
    try:
        call(*args)
    except Unsafe:
        pass
