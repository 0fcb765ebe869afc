"""Point 24."""

import random
import unittest

import counting
from pairwarden.deeds import apply_deed
from pairwarden.dealer import most_dealt
from pairwarden.errors import InvalidDeed
from pairwarden.keeping import KeptDealing
from pairwarden.papers import is_dealing
from pairwarden.pool import Pool
from samples import error_of, greatest_pools, many_pools, random_deed, same, seconds


def still_dealt(before, deed):
    """The new numbers of the pieces that were dealt before a deed that lets none go."""
    if deed[0] == "put":
        return {piece + (piece >= deed[1]) for piece in before}
    return before


def lets_none_go(pool, deed):
    return deed[0] in ("seat", "put", "give") or deed[0] == "cap" and deed[2] >= pool.caps[deed[1]]


class TestKeptDealing(unittest.TestCase):
    def test_example(self):
        kept = KeptDealing(Pool([1, 1, 1], [[0, 1]]))
        self.assertIsNone(kept.do(("put", 1, (0, 1))))
        self.assertEqual(kept.dealing(), [(0, 1), None])

    def test_a_new_one(self):
        for pool in many_pools(60, 24):
            kept = KeptDealing(pool)
            self.assertTrue(same(kept.pool, pool))
            self.assertTrue(is_dealing(pool, kept.dealing()))
            self.assertEqual(len(counting.dealt(kept.dealing())), counting.count_most(pool))

    def test_each_deed(self):
        kept = KeptDealing(Pool([1, 1, 1], [[0, 1], [1, 2]]))
        for deed, dealing in (
            (("seat", 1), [(0, 1), (1, 2)]),
            (("put", 0, (0, 1)), [None, (0, 1), (1, 2)]),
            (("give", 3, (0,)), None),
            (("remove", 1), None),
            (("cap", 1, 0), None),
            (("cap", 1, 1), None),
            (("take", 3, (0,)), [(0, 1), (1, 2)]),
            (("retire",), [(0, 1), (1, 2)]),
            (("take", 1, (1, 0)), [None, None]),
        ):
            pool = kept.pool
            kept.do(deed)
            self.assertTrue(same(kept.pool, apply_deed(pool, deed)))
            self.assertTrue(is_dealing(kept.pool, kept.dealing()))
            self.assertEqual(len(counting.dealt(kept.dealing())), counting.count_most(kept.pool))
            if dealing:
                self.assertEqual(kept.dealing(), dealing)

    def test_rows_of_deeds(self):
        dice = random.Random(24)
        for pool in many_pools(60, 241, cap=2):
            kept = KeptDealing(pool)
            for _ in range(25):
                deed = random_deed(dice, kept.pool)
                if deed[0] == "seat" and kept.pool.seats > 4 or deed[0] == "put" and kept.pool.pieces > 4:
                    continue
                before, dealt = kept.pool, counting.dealt(kept.dealing())
                kept.do(deed)
                dealing = kept.dealing()
                self.assertTrue(same(kept.pool, apply_deed(before, deed)))
                self.assertTrue(is_dealing(kept.pool, dealing))
                self.assertEqual(len(counting.dealt(dealing)), counting.count_most(kept.pool))
                if lets_none_go(before, deed):
                    self.assertLessEqual(still_dealt(dealt, deed), counting.dealt(dealing))
                if deed[0] in ("put", "remove") or deed[0] in ("give", "take") and len(deed[2]) == 1:
                    self.assertLessEqual(abs(most_dealt(kept.pool) - len(dealt)), 1)

    def test_dealt_pieces_stay_dealt_though_others_could_come_in(self):
        # Both pieces want the one place, so a new dealing could deal the other one.
        kept = KeptDealing(Pool([1, 1], [[0, 1]]))
        for _ in range(5):
            kept.do(("put", 0, (0, 1)))
        self.assertEqual(kept.dealing(), [None] * 5 + [(0, 1)])
        kept.do(("seat", 3))
        kept.do(("give", 2, (0,)))
        self.assertLessEqual({0, 5}, counting.dealt(kept.dealing()))

    def test_a_bad_deed_changes_nothing(self):
        kept = KeptDealing(Pool([1, 1], [[0, 1], [0]]))
        pool, dealing = kept.pool, kept.dealing()
        for deed in (
            ("seat", -1), ("retire",), ("cap", 2, 1), ("cap", 0, -1), ("put", 3, ()), ("put", 0, (0, 0)),
            ("remove", 2), ("give", 1, (0,)), ("give", 1, (1, 1)), ("take", 1, (1,)), ("take", 0, (2,)),
        ):
            self.assertIs(error_of(InvalidDeed, kept.do, deed).deed, deed)
            self.assertIs(kept.pool, pool)
            self.assertEqual(kept.dealing(), dealing)

    def test_a_new_list_each_time(self):
        kept = KeptDealing(Pool([1, 1], [[0, 1]]))
        self.assertIsNot(kept.dealing(), kept.dealing())
        kept.dealing().clear()
        kept.dealing()[0] = None
        self.assertEqual(kept.dealing(), [(0, 1)])
        kept.do(("cap", 0, 1))
        self.assertEqual(kept.dealing(), [(0, 1)])
        before = kept.dealing()
        kept.do(("put", 1, ()))
        self.assertEqual(before, [(0, 1)])

    def test_the_given_pool_does_not_change(self):
        pool = Pool([1, 1], [[0, 1]])
        first, second = KeptDealing(pool), KeptDealing(pool)
        first.do(("remove", 0))
        self.assertEqual([pool.holders, second.pool.holders], [((0, 1),), ((0, 1),)])
        self.assertEqual(second.dealing(), [(0, 1)])

    def test_time(self):
        for pool in greatest_pools():
            self.assertLess(seconds(KeptDealing, pool), 1)
            kept = KeptDealing(pool)
            for deed in (
                ("cap", 0, 0), ("cap", 0, 10 ** 60 - 1), ("remove", 30), ("put", 30, tuple(range(12))),
                ("take", 3, tuple(piece for piece in range(60) if 3 in kept.pool.holders[piece] and piece != 30)),
            ):
                self.assertLess(seconds(kept.do, deed), 1)
            self.assertLess(seconds(kept.dealing), 1)
