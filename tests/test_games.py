"""Points 44 and 45."""

import random
import unittest

import counting
from pairwarden.dealer import greatest_dealing
from pairwarden.errors import InvalidSends
from pairwarden.games import Game
from pairwarden.pool import Pool
from pairwarden.pooltext import write_pool
from pairwarden.rounds import after_round, told_sends
from samples import error_of, greatest_pools, many_pools, random_sends, same, seconds


def state(game):
    return [game.pool.holders, game.rounds, game.dead(), game.first_fault(), list(game)]


class TestGame(unittest.TestCase):
    def test_example(self):
        game = Game(Pool([1, 1], [[0, 1], [0, 1]]))
        game.play(0, [(1, 1)])
        game.play(1, [(1, 0)])
        self.assertEqual([game.dead(), game.first_fault()], [[0], 0])

    def test_a_new_game(self):
        pool = Pool([1, 1], [[0, 1]])
        game = Game(pool)
        self.assertIs(game.start, pool)
        self.assertTrue(same(game.pool, pool))
        self.assertEqual(state(game), [((0, 1),), (), [], None, []])

    def test_a_row_of_rounds(self):
        pool = Pool([1, 1, 1], [[0, 1, 2], [0, 1], [1, 2]])
        game = Game(pool)
        first, second, third = (0, ((1, 1), (0, 2))), (1, ((1, 0),)), (2, ())
        self.assertIsNone(game.play(0, [(1, 1), (0, 2)]))
        self.assertEqual(state(game), [((0, 1, 2), (0, 1), (1, 2)), (first,), [], None, [first]])
        self.assertIsNone(game.play(1, ((1, 0),)))
        self.assertEqual(state(game), [((0, 2), (0, 1), (2,)), (first, second), [], 2, [first, second]])
        self.assertIsNone(game.play(2, []))
        rounds = (first, second, third)
        self.assertEqual(state(game), [((0,), (0, 1), ()), rounds, [2], 2, list(rounds)])
        game.play(0, [])
        self.assertEqual([game.dead(), game.first_fault()], [[0, 2], 2])
        self.assertIs(game.start, pool)
        self.assertEqual(pool.holders, ((0, 1, 2), (0, 1), (1, 2)))
        self.assertIsInstance(game.rounds, tuple)
        self.assertTrue(all(isinstance(sends, tuple) for _, sends in game.rounds))

    def test_unsafe_from_the_start(self):
        for pool in (Pool([1], [[]]), Pool([1], [[0]]), Pool([0, 1], [[0, 1]]), Pool([1, 1], [[0, 1]] * 2)):
            game = Game(pool)
            self.assertEqual(game.first_fault(), 0)
            self.assertEqual(game.dead(), [0] if not pool.holders[0] else [])
            game.play(0, [])
            game.play(0, [])
            self.assertEqual(game.first_fault(), 0)

    def test_a_fault_in_the_first_round(self):
        game = Game(Pool([1, 1], [[0, 1]]))
        game.play(0, [])
        self.assertEqual([game.first_fault(), game.dead()], [1, []])
        game.play(1, [])
        self.assertEqual([game.first_fault(), game.dead()], [1, [0]])

    def test_a_wrong_round_changes_nothing(self):
        game = Game(Pool([1, 1, 1], [[0, 1, 2], [0, 1]]))
        game.play(0, [(1, 1)])
        pool, before = game.pool, state(game)
        for seat, sends, at in (
            (1, [(1, 0), (0, 0)], 1), (1, [(9, 0)], 0), (0, [(0, 1)], 0), (2, [(0, 1), (0, 1)], 1), (1, [(-1, 0)], 0),
        ):
            kept = list(sends)
            self.assertEqual(error_of(InvalidSends, game.play, seat, sends).at, at)
            self.assertIs(game.pool, pool)
            self.assertEqual(state(game), before)
            self.assertEqual(sends, kept)

    def test_lists_that_are_changed_later(self):
        game, sends = Game(Pool([1, 1], [[0, 1]])), [(0, 1)]
        game.play(0, sends)
        sends.append((0, 5))
        sends[0] = None
        self.assertEqual(game.rounds, ((0, ((0, 1),)),))
        game.dead().append(7)
        self.assertEqual(game.dead(), [])

    def test_two_games_of_one_pool(self):
        pool = Pool([1, 1], [[0, 1]])
        first, second = Game(pool), Game(pool)
        first.play(0, [])
        self.assertEqual(state(second), [((0, 1),), (), [], None, []])
        second.play(1, [(0, 0)])
        self.assertEqual([first.rounds, second.rounds], [((0, ()),), ((1, ((0, 0),)),)])
        self.assertEqual([first.first_fault(), second.first_fault()], [1, None])
        self.assertEqual(write_pool(pool), "seats 1 1\npiece 0 1\n")

    def test_drawn_games(self):
        dice = random.Random(44)
        for pool in many_pools(150, 44):
            game, pools, rounds = Game(pool), [pool], []
            for _ in range(8):
                seat = dice.randrange(pool.seats)
                sends = told_sends(pools[-1], greatest_dealing(pools[-1]), seat)
                if dice.randrange(3) == 0:
                    sends = random_sends(dice, pools[-1], seat, 0.8)
                game.play(seat, sends)
                pools.append(after_round(pools[-1], seat, sends))
                rounds.append((seat, tuple(sends)))
                faults = [at for at, other in enumerate(pools) if not counting.is_full(other)]
                self.assertTrue(same(game.pool, pools[-1]))
                self.assertEqual(game.rounds, tuple(rounds))
                self.assertEqual(list(game), rounds)
                self.assertEqual(game.dead(), [piece for piece, row in enumerate(pools[-1].holders) if not row])
                self.assertEqual(game.first_fault(), min(faults, default=None))

    def test_time(self):
        dice = random.Random(45)
        for pool in greatest_pools():
            game = Game(pool)
            self.assertLess(seconds(Game, pool), 1)
            for at in range(100):
                seat = at % 12
                sends = told_sends(game.pool, greatest_dealing(game.pool), seat)
                if at > 50:
                    sends = random_sends(dice, game.pool, seat)
                self.assertLess(seconds(game.play, seat, sends), 1)
                self.assertLess(seconds(game.first_fault), 1)
                self.assertLess(seconds(game.dead), 1)
