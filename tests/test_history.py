"""Point 15."""

import random
import unittest

from pairwarden.errors import InvalidDeed, NothingToRedo, NothingToUndo
from pairwarden.history import History
from pairwarden.pool import Pool
from pairwarden.pooltext import write_pool
from samples import error_of, many_pools, random_deed, seconds


def state(history):
    return [write_pool(history.pool), history.past, history.future, list(history)]


class TestHistory(unittest.TestCase):
    def test_example(self):
        history = History(Pool([1], []))
        history.do(("seat", 2))
        history.undo()
        self.assertEqual([history.pool.caps, history.past, history.future], [(1,), 0, 1])

    def test_a_new_history(self):
        pool = Pool([1], [])
        history = History(pool)
        self.assertEqual(state(history), ["seats 1\n", 0, 0, []])
        self.assertIs(error_of(NothingToUndo, history.undo).__class__, NothingToUndo)
        self.assertIs(error_of(NothingToRedo, history.redo).__class__, NothingToRedo)
        self.assertEqual(state(history), ["seats 1\n", 0, 0, []])

    def test_a_row_of_steps(self):
        history = History(Pool([1, 1], [[0]]))
        give, put, cap = ("give", 1, (0,)), ("put", 0, (1, 0)), ("cap", 1, 3)
        self.assertIsNone(history.do(give))
        self.assertEqual(state(history), ["seats 1 1\npiece 0 1\n", 1, 0, [give]])
        history.do(put)
        self.assertEqual(state(history), ["seats 1 1\npiece 0 1\npiece 0 1\n", 2, 0, [give, put]])
        self.assertIsNone(history.undo())
        self.assertEqual(state(history), ["seats 1 1\npiece 0 1\n", 1, 1, [give]])
        history.undo()
        self.assertEqual(state(history), ["seats 1 1\npiece 0\n", 0, 2, []])
        error_of(NothingToUndo, history.undo)
        self.assertEqual(state(history), ["seats 1 1\npiece 0\n", 0, 2, []])
        self.assertIsNone(history.redo())
        self.assertEqual(state(history), ["seats 1 1\npiece 0 1\n", 1, 1, [give]])
        history.do(cap)
        self.assertEqual(state(history), ["seats 1 3\npiece 0 1\n", 2, 0, [give, cap]])
        error_of(NothingToRedo, history.redo)
        self.assertEqual(state(history), ["seats 1 3\npiece 0 1\n", 2, 0, [give, cap]])
        history.undo()
        history.redo()
        self.assertEqual(state(history), ["seats 1 3\npiece 0 1\n", 2, 0, [give, cap]])

    def test_deeds_come_back_as_they_were_passed(self):
        history = History(Pool([1, 1, 1], [[], []]))
        deed = ("give", 2, (1, 0))
        history.do(deed)
        self.assertIs(list(history)[0], deed)
        history.undo()
        history.redo()
        self.assertIs(list(history)[0], deed)
        self.assertEqual([row for row in history], [("give", 2, (1, 0))])

    def test_a_deed_without_effect_is_a_deed(self):
        history = History(Pool([1], [[0]]))
        history.do(("give", 0, ()))
        history.do(("cap", 0, 1))
        self.assertEqual(state(history), ["seats 1\npiece 0\n", 2, 0, [("give", 0, ()), ("cap", 0, 1)]])
        history.undo()
        self.assertEqual(state(history), ["seats 1\npiece 0\n", 1, 1, [("give", 0, ())]])

    def test_a_bad_deed_changes_nothing(self):
        history = History(Pool([1, 1], [[0]]))
        history.do(("seat", 1))
        history.do(("cap", 0, 9))
        history.undo()
        before = state(history)
        for deed in (("cap", 5, 1), ("remove", 1), ("take", 1, (0,)), ("put", 2, ()), ("seat", -1)):
            self.assertIs(error_of(InvalidDeed, history.do, deed).deed, deed)
            self.assertEqual(state(history), before)
        history.redo()
        self.assertEqual(history.pool.caps, (9, 1, 1))

    def test_two_histories_of_one_pool(self):
        pool = Pool([1], [])
        first, second = History(pool), History(pool)
        first.do(("seat", 2))
        second.do(("cap", 0, 5))
        second.do(("put", 0, (0,)))
        first.undo()
        self.assertEqual(state(first), ["seats 1\n", 0, 1, []])
        self.assertEqual(state(second), ["seats 5\npiece 0\n", 2, 0, [("cap", 0, 5), ("put", 0, (0,))]])
        self.assertEqual(write_pool(pool), "seats 1\n")

    def test_100_deeds_back_and_forth(self):
        dice = random.Random(15)
        for pool in many_pools(10, 15):
            history, texts, deeds = History(pool), [write_pool(pool)], []
            for _ in range(100):
                deed = random_deed(dice, history.pool)
                history.do(deed)
                deeds.append(deed)
                texts.append(write_pool(history.pool))
            for done in range(100, 0, -1):
                self.assertEqual(state(history), [texts[done], done, 100 - done, deeds[:done]])
                history.undo()
            self.assertEqual(state(history), [texts[0], 0, 100, []])
            for done in range(1, 101):
                history.redo()
                self.assertEqual(state(history), [texts[done], done, 100 - done, deeds[:done]])
            error_of(NothingToRedo, history.redo)

    def test_random_steps(self):
        dice = random.Random(16)
        for pool in many_pools(50, 16):
            history, rows, undone = History(pool), [(None, write_pool(pool))], []
            for _ in range(40):
                step = dice.choice(("do", "do", "undo", "redo"))
                if step == "do":
                    deed = random_deed(dice, history.pool)
                    history.do(deed)
                    rows.append((deed, write_pool(history.pool)))
                    undone = []
                elif step == "undo" and len(rows) > 1:
                    history.undo()
                    undone.append(rows.pop())
                elif step == "redo" and undone:
                    history.redo()
                    rows.append(undone.pop())
                self.assertEqual(
                    state(history),
                    [rows[-1][1], len(rows) - 1, len(undone), [deed for deed, _ in rows[1:]]],
                )

    def test_time(self):
        history = History(Pool([1] * 12, [range(12)] * 60))
        for at in range(100):
            self.assertLess(seconds(history.do, ("cap", at % 12, at)), 1)
        for _ in range(100):
            self.assertLess(seconds(history.undo), 1)
        for _ in range(100):
            self.assertLess(seconds(history.redo), 1)
