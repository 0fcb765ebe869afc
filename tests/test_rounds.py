"""Points 33 to 37."""

import random
import unittest

import counting
from pairwarden.dealer import greatest_dealing
from pairwarden.errors import InvalidSends
from pairwarden.papers import is_dealing
from pairwarden.pool import Pool
from pairwarden.pooltext import write_pool
from pairwarden.rounds import after_loss, after_round, keeps_safe, told_sends
from pairwarden.sending import least_sends
from samples import error_of, greatest_pools, many_pools, random_sends, seconds

POOL = Pool([2, 1, 0, 1], [[0, 1], [0, 1, 2], [0, 3], [1, 3], [], [0], [0, 1, 3]])
TEXT = write_pool(POOL)
GOOD = [(0, 1), (6, 3)]


def fault(pool, seat, sends):
    """The index that both functions tell."""
    before = write_pool(pool)
    first = error_of(InvalidSends, after_round, pool, seat, sends).at
    second = error_of(InvalidSends, keeps_safe, pool, seat, sends).at
    assert first == second and write_pool(pool) == before
    return first


def by_the_words(pool, seat, sends):
    """The index of the first send that breaks a rule of point 33, or None."""
    for at, (piece, sender) in enumerate(sends):
        good = (
            piece in range(pool.pieces) and seat in pool.holders[piece]
            and sender != seat and sender in pool.holders[piece]
            and piece not in [other for other, _ in sends[:at]]
            and [other for _, other in sends[:at]].count(sender) < pool.caps[sender]
        )
        if not good:
            return at
    return None


class TestLoss(unittest.TestCase):
    def test_after_loss(self):
        after = after_loss(POOL, 0)
        self.assertEqual(after.caps, POOL.caps)
        self.assertEqual(after.holders, ((1,), (1, 2), (3,), (1, 3), (), (), (1, 3)))
        self.assertEqual(after_loss(POOL, 2).holders, ((0, 1), (0, 1), (0, 3), (1, 3), (), (0,), (0, 1, 3)))
        self.assertEqual(after_loss(Pool([1], [[0], []]), 0).holders, ((), ()))
        self.assertEqual(after_loss(Pool([1], []), 0).holders, ())
        self.assertEqual(write_pool(POOL), TEXT)

    def test_a_seat_that_holds_nothing(self):
        pool = Pool([1, 1], [[0], []])
        self.assertEqual(after_loss(pool, 1).holders, pool.holders)


class TestRound(unittest.TestCase):
    def test_example(self):
        self.assertEqual(after_round(Pool([1, 1], [[0, 1], [0, 1]]), 0, [(1, 1)]).holders, ((1,), (0, 1)))

    def test_ordinary(self):
        holders = ((0, 1), (1, 2), (3,), (1, 3), (), (), (0, 1, 3))
        for sends in (GOOD, tuple(GOOD), GOOD[::-1]):
            after = after_round(POOL, 0, sends)
            self.assertEqual([after.caps, after.holders], [POOL.caps, holders])
        self.assertEqual(write_pool(POOL), TEXT)
        self.assertEqual(after_round(POOL, 0, []).holders, after_loss(POOL, 0).holders)
        self.assertEqual(after_round(POOL, 0, ()).holders, after_loss(POOL, 0).holders)

    def test_dead_pieces_stay_dead(self):
        after = after_round(POOL, 0, [])
        self.assertEqual(after.holders[5], ())
        for seat in range(4):
            self.assertEqual(after_round(after, seat, []).holders[5], ())
            self.assertEqual(after_round(POOL, seat, []).holders[4], ())

    def test_each_rule(self):
        for before in ([], GOOD[:1], GOOD):
            for wrong in (
                (3, 1),             # the seat did not hold the piece
                (4, 1),             # nobody holds it
                (5, 0),             # the sender is the seat
                (1, 0),
                (2, 1),             # the sender does not hold the piece
                (5, 1),
                (1, 2),             # the sender has the cap 0
                (7, 1), (-1, 1), (-1, 3), (-7, 1), (10 ** 60, 1),
                (1, 4), (1, -1), (2, -1), (1, -3), (1, 10 ** 60), (-1, -1),
            ):
                self.assertEqual(fault(POOL, 0, before + [wrong]), len(before))
                self.assertEqual(fault(POOL, 0, before + [wrong, (4, 4)]), len(before))
                self.assertEqual(fault(POOL, 0, tuple(before + [wrong])), len(before))

    def test_a_piece_twice(self):
        self.assertEqual(fault(POOL, 0, [(6, 1), (6, 3)]), 1)
        self.assertEqual(fault(POOL, 0, [(6, 1), (2, 3), (6, 1)]), 2)
        wide = Pool([9, 9, 9], [[0, 1, 2]] * 2)
        self.assertEqual(fault(wide, 0, [(0, 1), (1, 1), (0, 1)]), 2)
        self.assertEqual(fault(wide, 0, [(0, 1), (1, 1), (0, 2)]), 2)

    def test_the_caps_of_the_senders(self):
        self.assertEqual(fault(POOL, 0, [(0, 1), (1, 1)]), 1)
        self.assertEqual(fault(POOL, 0, [(0, 1), (2, 3), (6, 1)]), 2)
        wide = Pool([0, 2, 3], [[0, 1, 2]] * 6)
        sends = [(0, 1), (1, 2), (2, 1), (3, 2), (4, 2)]
        self.assertEqual(len([row for row in after_round(wide, 0, sends).holders if 0 in row]), 5)
        self.assertEqual(fault(wide, 0, sends + [(5, 2)]), 5)
        self.assertEqual(fault(wide, 0, [(5, 1)] + sends), 3)
        # The cap of the seat that lost its copies does not matter.
        self.assertEqual(after_round(wide, 0, [(0, 1)]).holders[0], (0, 1, 2))

    def test_the_same_seat_again(self):
        pool = after_round(POOL, 0, GOOD)
        self.assertEqual(fault(pool, 0, [(2, 3)]), 0)
        self.assertEqual(fault(pool, 0, [(0, 1), (1, 1)]), 1)
        self.assertEqual(after_round(pool, 0, GOOD).holders, pool.holders)
        self.assertEqual(after_round(pool, 0, [(6, 1)]).holders[6], (0, 1, 3))

    def test_against_the_words(self):
        dice = random.Random(33)
        for pool in many_pools(200, 33):
            for seat in range(pool.seats):
                for _ in range(10):
                    sends = random_sends(dice, pool, seat)
                    for _ in range(dice.randint(0, 2)):
                        wrong = (dice.randint(-2, pool.pieces), dice.randint(-2, pool.seats))
                        sends.insert(dice.randint(0, len(sends)), wrong)
                    kept = list(sends)
                    at = by_the_words(pool, seat, sends)
                    if at is None:
                        pieces = [piece for piece, _ in sends]
                        wanted = [tuple(row) for row in counting.holders_after(pool, seat, pieces)]
                        self.assertEqual(after_round(pool, seat, sends).holders, tuple(wanted))
                    else:
                        self.assertEqual(fault(pool, seat, sends), at)
                    self.assertEqual(sends, kept)


class TestTold(unittest.TestCase):
    def test_example(self):
        self.assertEqual(told_sends(Pool([1, 1, 1], [[0, 1], [0, 2]]), [(0, 1), (0, 2)], 0), [(0, 1), (1, 2)])

    def test_ordinary(self):
        pool = Pool([1, 1, 1], [[0, 1, 2]] * 4)
        dealing = [(1, 2), None, (0, 2), (0, 1)]
        self.assertEqual(told_sends(pool, dealing, 0), [(2, 2), (3, 1)])
        self.assertEqual(told_sends(pool, dealing, 1), [(0, 2), (3, 0)])
        self.assertEqual(told_sends(pool, dealing, 2), [(0, 1), (2, 0)])
        self.assertEqual(told_sends(pool, [None] * 4, 2), [])
        self.assertEqual(told_sends(Pool([1], []), [], 0), [])

    def test_allowed_and_still_a_dealing(self):
        for pool in many_pools(60, 36, seats=3, pieces=4, cap=2):
            for dealing in counting.all_dealings(pool):
                kept = list(dealing)
                for seat in range(pool.seats):
                    sends = told_sends(pool, dealing, seat)
                    self.assertIsNone(by_the_words(pool, seat, sends))
                    self.assertEqual([piece for piece, _ in sends], sorted({piece for piece, _ in sends}))
                    touched = [(piece, pair) for piece, pair in enumerate(dealing) if pair and seat in pair]
                    self.assertEqual(sends, [(piece, sum(pair) - seat) for piece, pair in touched])
                    self.assertTrue(is_dealing(after_round(pool, seat, sends), dealing))
                self.assertEqual(dealing, kept)

    def test_dealt_pieces_never_die(self):
        dice = random.Random(361)
        for pool in many_pools(40, 361):
            dealing = greatest_dealing(pool)
            for _ in range(30):
                seat = dice.randrange(pool.seats)
                pool = after_round(pool, seat, told_sends(pool, dealing, seat))
                self.assertTrue(all(pool.holders[piece] for piece in counting.dealt(dealing)))

    def test_a_new_list_each_time(self):
        pool = Pool([1, 1], [[0, 1]])
        told_sends(pool, [(0, 1)], 0).clear()
        self.assertEqual(told_sends(pool, [(0, 1)], 0), [(0, 1)])


class TestKeepsSafe(unittest.TestCase):
    def test_ordinary(self):
        pool = Pool([1, 1, 1], [[0, 1, 2], [0, 1]])
        self.assertIs(keeps_safe(pool, 0, []), False)
        self.assertIs(keeps_safe(pool, 0, [(0, 2)]), False)
        self.assertIs(keeps_safe(pool, 0, [(1, 1)]), True)
        self.assertIs(keeps_safe(pool, 0, ((1, 1), (0, 2))), True)
        self.assertIs(keeps_safe(pool, 2, []), False)
        self.assertIs(keeps_safe(pool, 2, [(0, 1)]), True)
        self.assertIs(keeps_safe(Pool([2, 2, 2], [[0, 1, 2], [0, 1]]), 2, []), True)
        self.assertIs(keeps_safe(Pool([0], []), 0, []), True)
        self.assertIs(keeps_safe(Pool([0], [[]]), 0, []), False)

    def test_against_counting(self):
        for pool in many_pools(60, 37, seats=3, pieces=4):
            for seat in range(pool.seats):
                good = counting.sends_that_keep(pool, seat)
                for sends in counting.all_sends(pool, seat):
                    self.assertIs(keeps_safe(pool, seat, sends), sends in good)
                self.assertEqual(bool(good), counting.is_full(pool))


class TestTime(unittest.TestCase):
    def test_time(self):
        dice = random.Random(35)
        for pool in greatest_pools():
            sends = random_sends(dice, pool, 0)
            dealing = greatest_dealing(pool)
            self.assertLess(seconds(after_loss, pool, 0), 1)
            self.assertLess(seconds(after_round, pool, 0, sends), 1)
            self.assertLess(seconds(keeps_safe, pool, 0, sends), 1)
            self.assertLess(seconds(told_sends, pool, dealing, 0), 1)
            if None not in dealing:
                self.assertIs(keeps_safe(pool, 0, least_sends(pool, 0)), True)
