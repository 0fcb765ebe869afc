"""Points 30 to 32."""

import itertools
import random
import unittest

import counting
from pairwarden.dealer import most_dealt
from pairwarden.errors import InvalidPool
from pairwarden.kinds import least_kinds, pool_of_kinds, spread_kinds
from pairwarden.lots import least_lot
from samples import error_of, seconds

GREAT = 10 ** 30 - 1
P, Q, R = (0, 1), (0, 2), (1, 2)


def total(spread):
    return sum(amount for row in spread for _, amount in row)


def random_kinds(dice, seats=4, kinds=4, cap=3, count=3):
    """Caps and kinds; some kinds have the same holders, and caps and counts of 0 come too."""
    many = dice.randint(1, seats)
    caps = [dice.randint(0, cap) for _ in range(many)]
    rows = []
    for _ in range(dice.randint(0, kinds)):
        row = tuple(dice.sample(range(many), dice.choice((min(many, 2), dice.randint(0, many)))))
        if rows and dice.randrange(4) == 0:
            row = tuple(reversed(dice.choice(rows)[0]))
        rows.append((row, dice.randint(0, count)))
    return caps, rows


def fault(call, caps, kinds):
    return error_of(InvalidPool, call, caps, kinds).piece


def greatest_kinds():
    """Caps and kinds at the bounds: 7 seats and 6 kinds with numbers of 30 digits."""
    dice = random.Random(30)
    samples = []
    for _ in range(60):
        caps = [dice.choice((GREAT, dice.randint(0, GREAT), dice.randint(0, 9))) for _ in range(7)]
        kinds = [
            (tuple(dice.sample(range(7), dice.choice((2, 3, 4, 7)))), dice.choice((GREAT, dice.randint(0, GREAT))))
            for _ in range(6)
        ]
        samples.append((caps, kinds))
    return samples


class TestSpread(unittest.TestCase):
    def check(self, caps, kinds):
        """Each rule of a spread; returns the sum."""
        spread = spread_kinds(caps, kinds)
        self.assertIs(spread.__class__, list)
        self.assertEqual(len(spread), len(kinds))
        given = {}
        for row, (holders, count) in zip(spread, kinds):
            self.assertIs(row.__class__, list)
            pairs = [pair for pair, _ in row]
            self.assertEqual(pairs, sorted(set(pairs)))
            self.assertLessEqual(sum(amount for _, amount in row), count)
            for (first, second), amount in row:
                self.assertLess(first, second)
                self.assertLessEqual({first, second}, set(holders))
                self.assertGreaterEqual(amount, 1)
                given[first, second] = given.get((first, second), 0) + amount
        for (first, second), amount in given.items():
            self.assertLessEqual(amount, min(caps[first], caps[second]))
        return total(spread)

    def test_example(self):
        self.assertEqual(spread_kinds([2, 2], [((0, 1), 5)]), [[((0, 1), 2)]])

    def test_ordinary(self):
        self.assertEqual(spread_kinds([1], []), [])
        self.assertEqual(spread_kinds((1, 1), [((), 5), ((0,), 5), ((1, 0), 0)]), [[], [], []])
        self.assertEqual(spread_kinds([0, 5], [((0, 1), 5)]), [[]])
        self.assertEqual(spread_kinds([3, 2, 1], [((1, 0), 2), ((2, 0, 1), 3)]), [[(P, 2)], [(Q, 1), (R, 1)]])
        self.assertEqual(spread_kinds([2, 2, 2], [((0, 1, 2), 6)]), [[(P, 2), (Q, 2), (R, 2)]])
        self.assertEqual(spread_kinds([GREAT, GREAT], [((0, 1), GREAT)]), [[(P, GREAT)]])

    def test_a_kind_makes_way(self):
        # Kind 0 could take the places that kind 1 needs, and kind 1 those of kind 2.
        self.assertEqual(
            spread_kinds([4, 4, 4], [((0, 1, 2), 4), ((0, 1), 4), ((0, 2), 4)]), [[(R, 4)], [(P, 4)], [(Q, 4)]]
        )
        self.assertEqual(self.check([1, 1, 1], [((0, 1, 2), 1), ((0, 1), 1), ((0, 2), 1)]), 3)
        self.assertEqual(self.check([2, 3, 9], [((2, 1, 0), GREAT), ((0, 1), 2), ((2, 0), 1)]), 7)

    def test_the_same_holders(self):
        kinds = [((0, 1), 3), ((1, 0), 4), ((0, 1), 0), ((0, 1), 5)]
        self.assertEqual(self.check([20, 10], kinds), 10)
        self.assertEqual(self.check([20, 12], kinds), 12)
        self.assertEqual(self.check([20, 13], kinds), 12)

    def test_against_the_pool_of_all_pieces(self):
        dice = random.Random(31)
        for _ in range(500):
            caps, kinds = random_kinds(dice)
            self.assertEqual(self.check(caps, kinds), most_dealt(pool_of_kinds(caps, kinds)))

    def test_against_all_dealings(self):
        dice = random.Random(311)
        for _ in range(80):
            caps, kinds = random_kinds(dice, kinds=3, count=2)
            self.assertEqual(self.check(caps, kinds), counting.count_most(pool_of_kinds(caps, kinds)))

    def test_multiplied(self):
        dice = random.Random(312)
        for times in (1, 2, 3, 10 ** 29):
            for _ in range(60):
                caps, kinds = random_kinds(dice, seats=7, kinds=6, cap=9, count=9)
                great = [(holders, count * times) for holders, count in kinds]
                self.assertEqual(self.check([cap * times for cap in caps], great), self.check(caps, kinds) * times)

    def test_arguments_do_not_change(self):
        for call in (spread_kinds, least_kinds, pool_of_kinds):
            caps, kinds = [3, 2, 1], [((2, 1), 4), ((1, 0), 3)]
            call(caps, kinds)
            self.assertEqual([caps, kinds], [[3, 2, 1], [((2, 1), 4), ((1, 0), 3)]])
        first = spread_kinds([2, 2], [((0, 1), 5)])
        first[0].clear()
        first.clear()
        self.assertEqual(spread_kinds([2, 2], [((0, 1), 5)]), [[(P, 2)]])

    def test_time(self):
        for caps, kinds in greatest_kinds():
            self.check(caps, kinds)
            self.assertLess(seconds(spread_kinds, caps, kinds), 1)
            self.assertLess(seconds(least_kinds, caps, kinds), 1)


class TestLeastKinds(unittest.TestCase):
    def test_ordinary(self):
        self.assertEqual(least_kinds([1], []), [])
        self.assertEqual(least_kinds([2, 2], [((0, 1), 2)]), [])
        self.assertEqual(least_kinds([2, 2], [((0, 1), 3)]), [0])
        self.assertEqual(least_kinds([2, 2], [((0, 1), 1), ((1, 0), 2)]), [0, 1])
        self.assertEqual(least_kinds([2, 2, 2], [((1, 2), 2), ((0, 1), 3), ((0, 1, 2), 2)]), [1])
        self.assertEqual(least_kinds([2, 2], [((0,), 1), ((), 1), ((0, 1), 2)]), [0, 1])
        self.assertEqual(least_kinds([GREAT, GREAT], [((1, 0), GREAT), ((0, 1), 1)]), [0, 1])

    def test_counts_of_0(self):
        self.assertEqual(least_kinds([1, 1], [((), 0), ((0,), 0), ((0, 1), 0)]), [])
        self.assertEqual(least_kinds([1, 1], [((0, 1), 0), ((0, 1), 2)]), [1])

    def test_against_the_least_lot(self):
        dice = random.Random(313)
        for _ in range(500):
            caps, kinds = random_kinds(dice)
            lot = least_lot(pool_of_kinds(caps, kinds))
            owners = [kind for kind, (_, count) in enumerate(kinds) for _ in range(count)]
            inside = [kind for kind, (_, count) in enumerate(kinds) if count and owners.index(kind) in lot]
            self.assertEqual(least_kinds(caps, kinds), inside)
            self.assertEqual(lot, [piece for piece, kind in enumerate(owners) if kind in inside])

    def test_great_counts(self):
        for caps, kinds in greatest_kinds():
            inside = least_kinds(caps, kinds)
            pairs = {
                pair for kind in inside for pair in itertools.combinations(sorted(kinds[kind][0]), 2)
            }
            places = sum(min(caps[first], caps[second]) for first, second in pairs)
            undealt = sum(count for _, count in kinds) - total(spread_kinds(caps, kinds))
            self.assertEqual(sum(kinds[kind][1] for kind in inside) - places, undealt)
            self.assertEqual(inside == [], undealt == 0)


class TestPoolOfKinds(unittest.TestCase):
    def test_ordinary(self):
        pool = pool_of_kinds((3, 0, 1), [((2, 0), 2), ((1,), 0), ((), 1), ((0, 2), 1)])
        self.assertEqual([pool.caps, pool.holders], [(3, 0, 1), ((0, 2), (0, 2), (), (0, 2))])
        self.assertEqual(pool_of_kinds([0], []).holders, ())
        self.assertEqual(pool_of_kinds([1, 1], [((1, 0), 60)]).holders, ((0, 1),) * 60)


class TestFaults(unittest.TestCase):
    def test_all_three_functions(self):
        for caps, kinds, wanted in (
            ([], [], None),
            ((), [], None),
            ([], [((), -1)], None),
            ([-1], [], None),
            ([2, -1], [((0, 7), 1)], None),
            ([2, -1], [((0, 1), -1)], None),
            ([1, 1], [((0, 1), -1)], 0),
            ([1, 1], [((0, 1), 1), ((), -GREAT)], 1),
            ([1, 1], [((0, 2), 1)], 0),
            ([1, 1], [((0, -1), 1)], 0),
            ([1, 1], [((0, 0), 1)], 0),
            ([1, 1], [((0, 1, 0), 1)], 0),
            ([1, 1], [((2,), 0)], 0),
            ([1, 1], [((1, 1), 0)], 0),
            ([1, 1], [((0, 1), 1), ((0, 1), -1), ((0, 9), 1)], 1),
            ([1, 1], [((0, 1), 1), ((0, 9), 1), ((0, 1), -1)], 1),
            ([1, 1], [((0, 1), 0), ((1, 1), 2), ((0, 1), -1), ((7,), 1)], 1),
            ([1, 1], [((0, 1), -1), ((1, 1), 2)], 0),
            ([1, 1], [((0, 1), 1), ((1, 0), 2), ((5, 5), -1)], 2),
        ):
            for call in (spread_kinds, least_kinds, pool_of_kinds):
                self.assertEqual(fault(call, caps, kinds), wanted)
