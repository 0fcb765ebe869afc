"""Points 11 to 14."""

import random
import unittest

from pairwarden.deeds import apply_deed, inverse_deed, loss_deed
from pairwarden.errors import InvalidDeed
from pairwarden.pool import Pool
from pairwarden.pooltext import write_pool
from samples import error_of, greatest_pools, many_pools, random_deed, same, seconds

POOL = Pool([2, 1, 0], [[0, 1], [1], []])
TEXT = "seats 2 1 0\npiece 0 1\npiece 1\npiece\n"

GOOD = [
    (("seat", 0), (2, 1, 0, 0), ((0, 1), (1,), ())),
    (("seat", 10 ** 60 - 1), (2, 1, 0, 10 ** 60 - 1), ((0, 1), (1,), ())),
    (("retire",), (2, 1), ((0, 1), (1,), ())),
    (("cap", 0, 5), (5, 1, 0), ((0, 1), (1,), ())),
    (("cap", 1, 0), (2, 0, 0), ((0, 1), (1,), ())),
    (("cap", 2, 7), (2, 1, 7), ((0, 1), (1,), ())),
    (("cap", 2, 0), (2, 1, 0), ((0, 1), (1,), ())),
    (("put", 0, (2, 0)), (2, 1, 0), ((0, 2), (0, 1), (1,), ())),
    (("put", 1, ()), (2, 1, 0), ((0, 1), (), (1,), ())),
    (("put", 3, (2, 1, 0)), (2, 1, 0), ((0, 1), (1,), (), (0, 1, 2))),
    (("remove", 0), (2, 1, 0), ((1,), ())),
    (("remove", 1), (2, 1, 0), ((0, 1), ())),
    (("remove", 2), (2, 1, 0), ((0, 1), (1,))),
    (("give", 0, ()), (2, 1, 0), ((0, 1), (1,), ())),
    (("give", 0, (2, 1)), (2, 1, 0), ((0, 1), (0, 1), (0,))),
    (("give", 2, (0, 2, 1)), (2, 1, 0), ((0, 1, 2), (1, 2), (2,))),
    (("take", 2, ()), (2, 1, 0), ((0, 1), (1,), ())),
    (("take", 1, (1, 0)), (2, 1, 0), ((0,), (), ())),
    (("take", 0, (0,)), (2, 1, 0), ((1,), (1,), ())),
]

WRONG = [
    ("seat", -1),
    ("seat", -10 ** 59),
    ("cap", 3, 1),
    ("cap", -1, 1),
    ("cap", 0, -1),
    ("cap", 3, -1),
    ("put", 4, (0, 1)),
    ("put", -1, (0, 1)),
    ("put", 0, (3,)),
    ("put", 0, (-1,)),
    ("put", 0, (0, 1, 0)),
    ("put", 3, (1, 1)),
    ("put", 4, ()),
    ("remove", 3),
    ("remove", -1),
    ("give", 3, ()),
    ("give", -1, ()),
    ("give", 3, (0,)),
    ("give", 0, (3,)),
    ("give", 0, (-1,)),
    ("give", 2, (0, 0)),
    ("give", 0, (0,)),
    ("give", 0, (1, 2, 0)),
    ("give", 0, (1, 1)),
    ("take", 3, ()),
    ("take", -1, ()),
    ("take", -1, (2,)),
    ("take", 1, (3,)),
    ("take", 1, (-1,)),
    ("take", 1, (-2,)),
    ("take", 1, (0, 0)),
    ("take", 1, (0, 1, 1)),
    ("take", 1, (0, 2)),
    ("take", 0, (0, 1)),
    ("take", 2, (0,)),
]


class TestApply(unittest.TestCase):
    def test_good_deeds(self):
        for deed, caps, holders in GOOD:
            after = apply_deed(POOL, deed)
            self.assertEqual([after.caps, after.holders], [caps, holders], deed)
            self.assertEqual([after.seats, after.pieces], [len(caps), len(holders)])

    def test_the_given_pool_does_not_change(self):
        for deed, _, _ in GOOD:
            apply_deed(POOL, deed)
            inverse_deed(POOL, deed)
            self.assertEqual(write_pool(POOL), TEXT)

    def test_wrong_deeds(self):
        for deed in WRONG:
            for call in (apply_deed, inverse_deed):
                self.assertIs(error_of(InvalidDeed, call, POOL, deed).deed, deed)
                self.assertEqual(write_pool(POOL), TEXT)

    def test_retire(self):
        deed = ("retire",)
        for pool in (Pool([1], []), Pool([1], [[]]), Pool([1, 1], [[1]]), Pool([1, 0, 2], [[], [0], [0, 2]])):
            for call in (apply_deed, inverse_deed):
                self.assertIs(error_of(InvalidDeed, call, pool, deed).deed, deed)
        self.assertEqual(apply_deed(Pool([1, 2], [[0]]), deed).caps, (1,))

    def test_a_pool_without_pieces(self):
        pool = Pool([1], [])
        for deed in (("remove", 0), ("put", 1, ()), ("give", 0, (0,)), ("take", 0, (0,))):
            self.assertIs(error_of(InvalidDeed, apply_deed, pool, deed).deed, deed)
        self.assertEqual(apply_deed(pool, ("put", 0, (0,))).holders, ((0,),))
        self.assertEqual(apply_deed(pool, ("give", 0, ())).holders, ())


class TestInverse(unittest.TestCase):
    def test_example(self):
        self.assertEqual(inverse_deed(Pool([1, 1], [[0, 1]]), ("remove", 0)), ("put", 0, (0, 1)))

    def test_inverses(self):
        inverses = [
            (("seat", 4), ("retire",)),
            (("retire",), ("seat", 0)),
            (("cap", 0, 9), ("cap", 0, 2)),
            (("cap", 1, 1), ("cap", 1, 1)),
            (("put", 2, (1, 0)), ("remove", 2)),
            (("put", 3, ()), ("remove", 3)),
            (("remove", 0), ("put", 0, (0, 1))),
            (("remove", 2), ("put", 2, ())),
            (("give", 2, (2, 0, 1)), ("take", 2, (0, 1, 2))),
            (("give", 2, ()), ("take", 2, ())),
            (("take", 1, (1, 0)), ("give", 1, (0, 1))),
            (("take", 0, ()), ("give", 0, ())),
        ]
        for deed, inverse in inverses:
            self.assertEqual(inverse_deed(POOL, deed), inverse)

    def test_back_to_the_same_pool(self):
        for deed, _, _ in GOOD:
            after = apply_deed(POOL, deed)
            self.assertEqual(write_pool(apply_deed(after, inverse_deed(POOL, deed))), TEXT)

    def test_back_from_random_deeds(self):
        dice = random.Random(13)
        for pool in many_pools(400, 13):
            deed = random_deed(dice, pool)
            after = apply_deed(pool, deed)
            inverse = inverse_deed(pool, deed)
            self.assertTrue(same(apply_deed(after, inverse), pool))
            self.assertTrue(same(apply_deed(pool, inverse_deed(after, inverse)), after))


class TestLoss(unittest.TestCase):
    def test_loss(self):
        self.assertEqual(loss_deed(POOL, 0), ("take", 0, (0,)))
        self.assertEqual(loss_deed(POOL, 1), ("take", 1, (0, 1)))
        self.assertEqual(loss_deed(POOL, 2), ("take", 2, ()))

    def test_the_seat_holds_nothing_afterwards(self):
        for pool in many_pools(200, 14):
            for seat in range(pool.seats):
                after = apply_deed(pool, loss_deed(pool, seat))
                wanted = tuple(tuple(other for other in row if other != seat) for row in pool.holders)
                self.assertEqual([after.caps, after.holders], [pool.caps, wanted])


class TestTime(unittest.TestCase):
    def test_time(self):
        for pool in greatest_pools():
            loss = loss_deed(pool, 0)
            self.assertLess(seconds(loss_deed, pool, 0), 1)
            for deed in (loss, ("put", 30, tuple(range(12))), ("remove", 0), ("cap", 11, 10 ** 60 - 1), ("seat", 0)):
                self.assertLess(seconds(apply_deed, pool, deed), 1)
                self.assertLess(seconds(inverse_deed, pool, deed), 1)
