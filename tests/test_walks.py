"""Points 19, 20 and 21."""

import itertools
import random
import unittest

import counting
from pairwarden.dealer import greatest_dealing
from pairwarden.papers import is_dealing
from pairwarden.pool import Pool
from pairwarden.walks import find_walk, is_walk, take_walk
from samples import greatest_pools, many_pools, seconds

P, Q, R = (0, 1), (0, 2), (1, 2)
ALL = [0, 1, 2]


class TestIsWalk(unittest.TestCase):
    def check(self, caps, holders, dealing, walk, wanted):
        pool = Pool(caps, holders)
        self.assertTrue(is_dealing(pool, dealing))
        self.assertIs(is_walk(pool, dealing, walk), wanted, walk)

    def test_good_walks(self):
        self.check([1, 1], [[0, 1]], [None], [(0, P)], True)
        self.check([1, 1, 1], [[0, 1], ALL], [None, P], [(0, P), (1, Q)], True)
        self.check([1, 1, 1], [[0, 1], ALL, ALL], [None, P, Q], [(0, P), (1, Q), (2, R)], True)

    def test_a_pair_before_the_last_may_have_a_free_place(self):
        self.check([2, 2, 2], [[0, 1], ALL], [None, P], [(0, P), (1, Q)], True)

    def test_a_pair_may_come_again(self):
        walk = [(0, P), (1, Q), (2, P), (3, R)]
        self.check([2, 2, 2], [[0, 1], ALL, ALL, ALL], [None, P, Q, P], walk, True)
        self.check([2, 2, 2], [[0, 1], ALL, ALL], [None, P, Q], [(0, P), (1, Q), (2, P)], True)

    def test_at_least_one_step(self):
        self.check([1, 1], [[0, 1]], [None], [], False)
        self.check([1, 1], [[0, 1]], [P], [], False)
        self.check([1], [], [], [], False)

    def test_pieces_are_different(self):
        holders = [[0, 1], ALL, ALL]
        self.check([1, 1, 1], holders, [None, P, Q], [(0, P), (1, Q), (2, P), (1, R)], False)
        self.check([1, 1, 1], holders, [None, None, None], [(0, P), (0, P)], False)

    def test_the_first_piece_is_not_dealt(self):
        self.check([1, 1, 1], [ALL], [P], [(0, Q)], False)
        self.check([1, 1, 1], [ALL, ALL], [P, None], [(0, Q)], False)

    def test_each_later_piece_is_dealt_to_the_pair_before(self):
        holders = [[0, 1], ALL, ALL]
        self.check([1, 1, 1], holders, [None, Q, None], [(0, P), (1, R)], False)
        self.check([1, 1, 1], holders, [None, None, None], [(0, P), (1, R)], False)
        self.check([1, 1, 1], holders, [None, P, Q], [(0, P), (2, R)], False)
        self.check([1, 1, 1], holders, [None, P, Q], [(0, P), (1, Q), (1, R)], False)

    def test_each_piece_holds_its_pair(self):
        self.check([1, 1, 1], [[0, 1]], [None], [(0, Q)], False)
        self.check([1, 1, 1], [[0]], [None], [(0, P)], False)
        self.check([1, 1, 1], [[]], [None], [(0, P)], False)
        self.check([1, 1, 1], [[0, 1], [0, 1]], [None, P], [(0, P), (1, Q)], False)
        self.check([1, 1, 1], [[0, 2], ALL], [None, P], [(0, P), (1, R)], False)

    def test_what_is_no_pair(self):
        for pair in ((1, 0), (0, 0), (1, 1), (0, 3), (3, 4), (-1, 0), (-3, 1), (-2, -1), (0, -2), (10 ** 60, 0)):
            self.check([1, 1, 1], [ALL], [None], [(0, pair)], False)
            self.check([1, 1, 1], [[0, 1], ALL], [None, P], [(0, P), (1, pair)], False)

    def test_pieces_that_do_not_exist(self):
        for piece in (1, -1, 10 ** 60, -10 ** 60):
            self.check([1, 1, 1], [ALL], [None], [(piece, P)], False)
            self.check([1, 1, 1], [ALL], [None], [(0, P), (piece, Q)], False)
        self.check([1, 1], [], [], [(0, P)], False)

    def test_a_pair_has_room(self):
        self.check([1, 0], [[0, 1]], [None], [(0, P)], False)
        self.check([0, 0, 0], [ALL], [None], [(0, R)], False)

    def test_the_last_pair_has_a_free_place(self):
        self.check([1, 1, 1], [ALL, ALL], [None, P], [(0, P)], False)
        self.check([1, 1, 1], [ALL, ALL, ALL], [None, P, Q], [(0, P), (1, Q)], False)
        self.check([2, 2], [[0, 1]] * 3, [P, P, None], [(2, P)], False)
        self.check([2, 2], [[0, 1]] * 3, [P, None, None], [(2, P)], True)

    def test_a_piece_does_not_take_its_own_pair(self):
        self.check([2, 2], [[0, 1], [0, 1]], [None, P], [(0, P), (1, P)], False)
        self.check([3, 3], [[0, 1]] * 3, [None, P, P], [(0, P), (1, P), (2, P)], False)

    def test_every_row_of_steps_by_the_words_of_the_point(self):
        for pool in many_pools(25, 19, seats=3, pieces=3, cap=2):
            steps = list(itertools.product(range(pool.pieces), (P, Q, R)))
            for dealing in counting.all_dealings(pool):
                for many in range(4):
                    for walk in itertools.product(steps, repeat=many):
                        self.assertIs(is_walk(pool, dealing, list(walk)), by_the_words(pool, dealing, walk))


def by_the_words(pool, dealing, walk):
    """Point 19, rule by rule."""
    pieces, pairs = [piece for piece, _ in walk], [pair for _, pair in walk]
    return (
        len(walk) >= 1
        and len(set(pieces)) == len(pieces)
        and dealing[pieces[0]] is None
        and all(dealing[piece] == pair for piece, pair in zip(pieces[1:], pairs))
        and all(pair in counting.pairs_of(pool, piece) for piece, pair in walk)
        and all(counting.room_of(pool, pair) >= 1 for pair in pairs)
        and dealing.count(pairs[-1]) < counting.room_of(pool, pairs[-1])
        and all(dealing[piece] != pair for piece, pair in walk)
    )


class TestFindWalk(unittest.TestCase):
    def test_example(self):
        pool = Pool([1, 1, 1], [[0, 1], [0, 1], [0, 1, 2]])
        self.assertIsNone(find_walk(pool, [(0, 1), None, (0, 2)]))

    def test_lists_of_pieces(self):
        pool = Pool([1, 1, 1], [[0, 1], [0, 1], ALL, ALL, []])
        dealing = [P, None, None, None, None]
        self.assertIsNone(find_walk(pool, dealing, pieces=[]))
        self.assertIsNone(find_walk(pool, dealing, pieces=[0]))
        self.assertIsNone(find_walk(pool, dealing, pieces=[1]))
        self.assertIsNone(find_walk(pool, dealing, pieces=[4, 0, 1]))
        for pieces in ([2], [0, 2], [2, 1], [2, 2], [4, 2, 0]):
            self.assertEqual(find_walk(pool, dealing, pieces=pieces)[0][0], 2)
        self.assertIn(find_walk(pool, dealing)[0][0], [2, 3])

    def test_pools_without_a_walk(self):
        for pool in (Pool([1], []), Pool([1], [[0]]), Pool([1, 0], [[0, 1]]), Pool([1, 1], [[]])):
            self.assertIsNone(find_walk(pool, [None] * pool.pieces))
        self.assertIsNone(find_walk(Pool([1, 1], [[0, 1]]), [P]))

    def test_a_long_walk(self):
        # Piece 0 holds the first pair alone, and each other piece its own pair and the next one.
        holders = [[0, 1]] + [[at, at + 1, at + 2] for at in range(10)]
        pool = Pool([1] * 12, holders)
        dealing = [None] + [(at, at + 1) for at in range(10)]
        walk = find_walk(pool, dealing)
        self.assertTrue(is_walk(pool, dealing, walk))
        self.assertTrue(is_dealing(pool, take_walk(dealing, walk)))

    def test_against_counting(self):
        for pool in many_pools(60, 20, seats=3, pieces=4, cap=2):
            most = counting.count_most(pool)
            sets = counting.dealable_sets(pool)
            for dealing in counting.all_dealings(pool):
                dealt = counting.dealt(dealing)
                able = [piece for piece in range(pool.pieces) if piece not in dealt and dealt | {piece} in sets]
                self.assertEqual(find_walk(pool, dealing) is None, len(dealt) == most)
                for many in range(pool.pieces + 1):
                    for pieces in itertools.permutations(range(pool.pieces), many):
                        walk = find_walk(pool, dealing, pieces=list(pieces))
                        self.assertEqual(walk is None, not set(pieces) & set(able))
                        self.check_walk(pool, dealing, walk, pieces)
                self.check_walk(pool, dealing, find_walk(pool, dealing), range(pool.pieces))

    def check_walk(self, pool, dealing, walk, pieces):
        if walk is None:
            return
        self.assertTrue(by_the_words(pool, dealing, walk))
        self.assertIs(is_walk(pool, dealing, walk), True)
        self.assertIn(walk[0][0], pieces)
        after = take_walk(dealing, walk)
        self.assertTrue(is_dealing(pool, after))
        self.assertEqual(counting.dealt(after), counting.dealt(dealing) | {walk[0][0]})

    def test_arguments_do_not_change(self):
        pool = Pool([1, 1, 1], [[0, 1], ALL])
        dealing, pieces = [None, P], [1, 0]
        walk = find_walk(pool, dealing, pieces=pieces)
        is_walk(pool, dealing, walk)
        self.assertEqual([dealing, pieces], [[None, P], [1, 0]])
        kept = list(walk)
        walk.clear()
        self.assertEqual(find_walk(pool, dealing, pieces=pieces), kept)

    def test_time(self):
        dice = random.Random(21)
        for pool in greatest_pools():
            full = greatest_dealing(pool)
            for share in (0, 1, 4, 60):
                dealing = [pair if dice.randrange(60) >= share else None for pair in full]
                self.assertLess(seconds(find_walk, pool, dealing), 1)
                self.assertLess(seconds(find_walk, pool, dealing, pieces=list(range(60))), 1)


class TestTakeWalk(unittest.TestCase):
    def test_example(self):
        self.assertEqual(take_walk([None, P], [(0, P), (1, Q)]), [P, Q])

    def test_other_entries_stay(self):
        self.assertEqual(take_walk([None, P, None, R, P], [(2, P), (1, Q)]), [None, Q, P, R, P])

    def test_arguments_do_not_change(self):
        dealing, walk = [None, P], [(0, P), (1, Q)]
        after = take_walk(dealing, walk)
        after.append(None)
        self.assertEqual([dealing, walk], [[None, P], [(0, P), (1, Q)]])
