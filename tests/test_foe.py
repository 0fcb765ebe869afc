"""Points 40 to 43."""

import itertools
import random
import unittest

import counting
from pairwarden.dealer import most_dealt
from pairwarden.errors import InvalidSends
from pairwarden.foe import first_sends, killing_row, lot_row
from pairwarden.lots import greatest_lot, least_lot
from pairwarden.papers import is_dealing, lot_lack
from pairwarden.pool import Pool
from pairwarden.pooltext import write_pool
from pairwarden.rounds import after_round
from samples import error_of, greatest_pools, many_pools, random_sends, seconds


def drawn_rounds(dice, pool, row):
    """Rounds with drawn allowed sends for a row of seats, and the pool after them."""
    rounds, share = [], dice.choice((1, 1, 0.7))
    for seat in row:
        rounds.append((seat, random_sends(dice, pool, seat, share)))
        pool = after_round(pool, *rounds[-1])
    return rounds, pool


def alive(pool):
    return frozenset(piece for piece, row in enumerate(pool.holders) if row)


def fault(pool, rounds):
    before = write_pool(pool)
    at = error_of(InvalidSends, first_sends, pool, rounds).at
    assert write_pool(pool) == before
    return at


class TestRows(unittest.TestCase):
    def test_example(self):
        self.assertEqual(killing_row(Pool([1, 2, 2], [])), [1, 2, 0])

    def test_killing_row(self):
        self.assertEqual(killing_row(Pool([0], [])), [0])
        self.assertEqual(killing_row(Pool([3, 3, 3], [[0]])), [0, 1, 2])
        self.assertEqual(killing_row(Pool([0, 1, 2, 3], [])), [3, 2, 1, 0])
        self.assertEqual(killing_row(Pool([3, 2, 1, 0], [])), [0, 1, 2, 3])
        self.assertEqual(killing_row(Pool([5, 0, 5, 0, 9], [])), [4, 0, 2, 1, 3])
        self.assertEqual(killing_row(Pool([10 ** 60 - 2, 10 ** 60 - 1, 10 ** 60 - 2], [])), [1, 0, 2])

    def test_lot_row(self):
        pool = Pool([5, 0, 5, 0, 9], [[0, 1], [3, 1], [], [4], [2, 4]])
        self.assertEqual(lot_row(pool, []), [])
        self.assertEqual(lot_row(pool, [2]), [])
        self.assertEqual(lot_row(pool, [0]), [0, 1])
        self.assertEqual(lot_row(pool, [1]), [1, 3])
        self.assertEqual(lot_row(pool, [0, 1]), [0, 1, 3])
        self.assertEqual(lot_row(pool, [0, 2, 3]), [4, 0, 1])
        self.assertEqual(lot_row(pool, [0, 1, 2, 3, 4]), [4, 0, 2, 1, 3])

    def test_new_lists(self):
        pool, lot = Pool([1, 2], [[0, 1]]), [0]
        killing_row(pool).clear()
        lot_row(pool, lot).clear()
        self.assertEqual([killing_row(pool), lot_row(pool, lot), lot], [[1, 0], [1, 0], [0]])


class TestFacts(unittest.TestCase):
    def test_what_lives_can_be_dealt(self):
        dice = random.Random(41)
        for pool in many_pools(200, 41) + many_pools(100, 411, cap=1):
            sets = counting.dealable_sets(pool)
            for _ in range(6):
                rounds, after = drawn_rounds(dice, pool, killing_row(pool))
                pairs = first_sends(pool, rounds)
                self.assertIn(alive(after), sets)
                self.assertTrue(is_dealing(pool, pairs))
                self.assertLessEqual(alive(after), counting.dealt(pairs))

    def test_every_order_for_equal_caps(self):
        dice = random.Random(412)
        for pool in many_pools(60, 412, seats=3):
            pool = Pool([dice.randint(0, 2)] * pool.seats, pool.holders)
            sets = counting.dealable_sets(pool)
            for row in itertools.permutations(range(pool.seats)):
                _, after = drawn_rounds(dice, pool, row)
                self.assertIn(alive(after), sets)

    def test_lots_die(self):
        dice = random.Random(413)
        for pool in many_pools(80, 413):
            for lot in [least_lot(pool), greatest_lot(pool)] + dice.sample(counting.all_lots(pool), 1):
                _, after = drawn_rounds(dice, pool, lot_row(pool, lot))
                self.assertGreaterEqual(len(set(lot) - alive(after)), lot_lack(pool, lot))

    def test_the_order_matters(self):
        for low, high in ((1, 2), (0, 3), (2, 5)):
            pool = Pool([low, high], [[0, 1]] * high)
            sends = [(piece, 1) for piece in range(high)]
            back = [(piece, 0) for piece in range(low)]
            after = after_round(after_round(pool, 0, sends), 1, back)
            self.assertEqual(len(alive(after)), high)
            self.assertEqual(killing_row(pool), [1, 0])
            self.assertEqual(most_dealt(pool), low)
            dice = random.Random(43)
            for _ in range(20):
                _, after = drawn_rounds(dice, pool, [1, 0])
                self.assertLessEqual(len(alive(after)), low)


class TestFirstSends(unittest.TestCase):
    def test_example(self):
        pool = Pool([1, 1], [[0, 1], [0, 1]])
        self.assertEqual(first_sends(pool, [(0, [(1, 1)]), (1, [(1, 0)])]), [None, (0, 1)])

    def test_ordinary(self):
        pool = Pool([2, 2, 2], [[0, 1, 2], [0, 2], [1], []])
        self.assertEqual(first_sends(pool, []), [None] * 4)
        self.assertEqual(first_sends(pool, ()), [None] * 4)
        self.assertEqual(first_sends(pool, [(1, []), (1, [])]), [None] * 4)
        self.assertEqual(first_sends(pool, [(2, [(1, 0), (0, 1)])]), [(1, 2), (0, 2), None, None])
        self.assertEqual(first_sends(pool, ((2, ((0, 1), (1, 0))),)), [(1, 2), (0, 2), None, None])
        self.assertEqual(first_sends(Pool([1], []), [(0, [])]), [])

    def test_the_first_send_counts(self):
        pool = Pool([2, 2, 2], [[0, 1, 2]])
        self.assertEqual(first_sends(pool, [(0, [(0, 1)]), (0, [(0, 2)])]), [(0, 1)])
        self.assertEqual(first_sends(pool, [(1, []), (0, [(0, 2)]), (2, [(0, 0)])]), [(0, 2)])
        self.assertEqual(first_sends(pool, [(2, [(0, 1)]), (0, [(0, 1)])]), [(1, 2)])

    def test_wrong_sends(self):
        pool = Pool([2, 2, 2], [[0, 1, 2], [0, 1]])
        self.assertEqual(fault(pool, [(0, [(0, 0)])]), 0)
        self.assertEqual(fault(pool, [(0, [(0, 1), (1, 2)])]), 1)
        self.assertEqual(fault(pool, [(0, [(0, 1)]), (1, [(1, 0)])]), 0)
        self.assertEqual(fault(pool, [(0, [(0, 1)]), (1, [(0, 2), (1, 0)])]), 1)
        self.assertEqual(fault(pool, [(0, [(0, 1), (1, 1), (1, 1)]), (1, [(9, 0)])]), 2)
        self.assertEqual(fault(pool, ((0, ()), (0, ((0, 1),)))), 0)

    def test_arguments_do_not_change(self):
        pool, rounds = Pool([2, 2], [[0, 1]]), [(0, [(0, 1)]), (1, [(0, 0)])]
        pairs = first_sends(pool, rounds)
        pairs.clear()
        self.assertEqual([pool.holders, rounds], [((0, 1),), [(0, [(0, 1)]), (1, [(0, 0)])]])
        self.assertEqual(first_sends(pool, rounds), [(0, 1)])

    def test_time(self):
        dice = random.Random(42)
        for pool in greatest_pools():
            rounds, _ = drawn_rounds(dice, pool, [dice.randrange(12) for _ in range(100)])
            self.assertLess(seconds(first_sends, pool, rounds), 1)
            self.assertLess(seconds(killing_row, pool), 1)
            self.assertLess(seconds(lot_row, pool, list(range(60))), 1)
