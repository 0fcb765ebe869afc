"""Points 46 to 50."""

import random
import unittest

import counting
from pairwarden.dealer import greatest_dealing, is_safe
from pairwarden.errors import InvalidTable
from pairwarden.pool import Pool
from pairwarden.pooltext import write_pool
from pairwarden.rounds import told_sends
from pairwarden.tables import check_table, core, is_right, play_table, table_of, table_row
from samples import error_of, greatest_pools, many_pools, same, seconds

POOL = Pool([2, 1, 0], [[0, 1], [0, 1, 2], []])


def faults(pool, table):
    """What all functions that take a table tell of it."""
    before, kept = write_pool(pool), [list(row) for row in table]
    found = {
        (error.seat, error.at) for error in (
            error_of(InvalidTable, check_table, pool, table),
            error_of(InvalidTable, play_table, pool, table, 0),
            error_of(InvalidTable, play_table, pool, table, pool.seats - 1),
            error_of(InvalidTable, core, pool, table),
            error_of(InvalidTable, is_right, pool, table),
            error_of(InvalidTable, table_row, pool, table),
        )
    }
    assert write_pool(pool) == before and table == kept
    return found


def random_table(dice, pool, entries=5):
    """A table that fits the pool."""
    table = []
    for seat in range(pool.seats):
        row, left = [], list(pool.caps)
        for _ in range(dice.randint(0, entries)):
            senders = [sender for sender in range(pool.seats) if sender != seat and left[sender] > 0]
            if senders and pool.pieces:
                row.append((dice.randrange(pool.pieces), dice.choice(senders)))
                left[row[-1][1]] -= 1
        table.append(row)
    return table


def played(holders, table, seat):
    """The holders after a round with the sends of the table, by the words of point 46."""
    after = []
    for piece, row in enumerate(holders):
        rest = [other for other in row if other != seat]
        back = seat in row and any(entry[0] == piece and entry[1] in rest for entry in table[seat])
        after.append(tuple(sorted(rest + [seat] * back)))
    return tuple(after)


def reached(pool, table):
    """All holders that rows of losses reach, each with a shortest row that does."""
    rows = {pool.holders: []}
    waiting = [pool.holders]
    for holders in waiting:
        for seat in range(pool.seats):
            after = played(holders, table, seat)
            if after not in rows:
                rows[after] = rows[holders] + [seat]
                waiting.append(after)
    return rows


def turn_after_turn(pool, table):
    """The holders in the core, and the beginning of the row of turns after which a piece is dead."""
    holders, row, death = pool.holders, [], None
    if () in holders:
        death = []
    changed = True
    while changed:
        before = holders
        for seat in range(pool.seats):
            holders = played(holders, table, seat)
            row.append(seat)
            if death is None and () in holders:
                death = list(row)
        changed = before != holders
    return holders, death


class TestCheck(unittest.TestCase):
    def test_tables_that_fit(self):
        for table in (
            [[], [], []],
            [[(0, 1)], [(1, 0), (0, 0)], [(2, 0), (2, 1), (2, 0)]],
            [[(2, 1)], [(0, 0), (0, 0)], []],
        ):
            self.assertIsNone(check_table(POOL, table))
        self.assertIsNone(check_table(Pool([0], []), [[]]))

    def test_the_number_of_lists(self):
        for table in ([], [[]], [[], []], [[], [], [], []], [[(9, 9)]], [[(9, 9)], [], [], []]):
            self.assertEqual(faults(POOL, table), {(None, None)})
        self.assertEqual(faults(Pool([0], []), []), {(None, None)})

    def test_each_wrong_entry(self):
        for wrong in (
            (3, 1), (-1, 1), (-3, 1), (10 ** 60, 1), (0, 3), (0, -1), (0, -2), (0, 10 ** 60), (0, 0), (2, 0), (0, 2),
        ):
            self.assertEqual(faults(POOL, [[wrong], [], []]), {(0, 0)})
            self.assertEqual(faults(POOL, [[(0, 1), wrong], [], []]), {(0, 1)})
            self.assertEqual(faults(POOL, [[wrong, (0, 1)], [(7, 7)], []]), {(0, 0)})
        for wrong in ((3, 0), (-1, 0), (0, 3), (0, -1), (1, 1), (0, 2)):
            self.assertEqual(faults(POOL, [[(0, 1)], [(0, 0), wrong], [(9, 9)]]), {(1, 1)})

    def test_numbers_below_0(self):
        # The last seat could send, and the last piece is held by all.
        wide = Pool([5, 5, 5], [[0, 1, 2]] * 2)
        for wrong in ((-1, 1), (-2, 1), (0, -1), (0, -2), (0, -3), (-1, -1)):
            self.assertEqual(faults(wide, [[(0, 2), wrong], [], []]), {(0, 1)})
            self.assertEqual(faults(wide, [[], [(0, 2), (1, 2), wrong], []]), {(1, 2)})

    def test_a_sender_as_often_as_its_cap_and_once_more(self):
        good = [(1, 0), (1, 0)]
        self.assertIsNone(check_table(POOL, [[], good, good]))
        self.assertEqual(faults(POOL, [[], good + [(1, 0)], []]), {(1, 2)})
        self.assertEqual(faults(POOL, [[], good, [(1, 0), (1, 1), (2, 0), (1, 0)]]), {(2, 3)})
        self.assertEqual(faults(POOL, [[(0, 1), (1, 1)], good, []]), {(0, 1)})
        self.assertEqual(faults(POOL, [[(0, 1), (0, 1)], good, []]), {(0, 1)})
        # What one list holds does not count in another one.
        self.assertIsNone(check_table(POOL, [[(0, 1)], [], [(0, 1)]]))
        self.assertEqual(faults(Pool([0, 0], [[0, 1]]), [[], [(0, 0)]]), {(1, 0)})

    def test_the_first_of_several(self):
        self.assertEqual(faults(POOL, [[], [(0, 0), (0, 1)], [(5, 5)]]), {(1, 1)})
        self.assertEqual(faults(POOL, [[], [], [(0, 0), (0, 9), (9, 0)]]), {(2, 1)})
        self.assertEqual(faults(POOL, [[], [], [(0, 0), (9, 0), (0, 9)]]), {(2, 1)})
        self.assertEqual(faults(POOL, [[(0, 1), (0, 1), (0, 1)], [], []]), {(0, 1)})

    def test_an_entry_of_any_sender_counts(self):
        wide = Pool([2, 2, 2], [[0, 1, 2]] * 2)
        self.assertIsNone(check_table(wide, [[(0, 1), (0, 2), (1, 1), (1, 2)], [], []]))
        self.assertEqual(faults(wide, [[(0, 1), (0, 2), (1, 1), (1, 2), (0, 1)], [], []]), {(0, 4)})


class TestPlay(unittest.TestCase):
    def test_ordinary(self):
        table = [[(0, 1)], [(1, 0), (0, 0)], [(1, 0)]]
        after = play_table(POOL, table, 0)
        self.assertEqual([after.caps, after.holders], [(2, 1, 0), ((0, 1), (1, 2), ())])
        self.assertEqual(play_table(POOL, table, 1).holders, POOL.holders)
        self.assertEqual(play_table(POOL, table, 2).holders, POOL.holders)
        self.assertEqual(play_table(POOL, [[], [], []], 1).holders, ((0,), (0, 2), ()))
        self.assertEqual(POOL.holders, ((0, 1), (0, 1, 2), ()))

    def test_entries_that_do_nothing(self):
        # The seat did not hold piece 0, and nobody holds piece 2.
        self.assertEqual(play_table(POOL, [[], [], [(0, 0), (2, 0)]], 2).holders, ((0, 1), (0, 1), ()))
        # Seat 2 does not hold what it is told to send.
        wide = Pool([1, 1, 1], [[0, 1], [0, 2]])
        self.assertEqual(play_table(wide, [[(0, 2), (1, 1)], [], []], 0).holders, ((1,), (2,)))
        self.assertEqual(play_table(wide, [[(1, 2), (0, 1)], [], []], 0).holders, ((0, 1), (0, 2)))

    def test_several_entries_for_one_piece(self):
        wide = Pool([2, 2, 2], [[0, 1, 2], [0, 2]])
        for row in ([(0, 1), (0, 2)], [(0, 1), (0, 1)], [(1, 1), (0, 1), (0, 2)]):
            self.assertEqual(play_table(wide, [row, [], []], 0).holders, ((0, 1, 2), (2,)))
        # One of the two senders is enough.
        self.assertEqual(play_table(wide, [[(1, 1), (1, 2)], [], []], 0).holders, ((1, 2), (0, 2)))
        self.assertEqual(play_table(wide, [[(1, 2), (1, 1)], [], []], 0).holders, ((1, 2), (0, 2)))

    def test_against_the_words(self):
        dice = random.Random(46)
        for pool in many_pools(200, 46):
            table = random_table(dice, pool)
            for seat in range(pool.seats):
                after = play_table(pool, table, seat)
                self.assertEqual([after.caps, after.holders], [pool.caps, played(pool.holders, table, seat)])

    def test_table_of(self):
        pool = Pool([1, 1, 1], [[0, 1, 2], [0, 1, 2], []])
        self.assertEqual(table_of(pool, [(0, 2), (0, 1), None]), [[(0, 2), (1, 1)], [(1, 0)], [(0, 0)]])
        self.assertEqual(table_of(pool, [None] * 3), [[], [], []])
        for pool in many_pools(40, 48, seats=3, pieces=4, cap=2):
            for dealing in counting.all_dealings(pool):
                table = table_of(pool, dealing)
                self.assertEqual(table, [told_sends(pool, dealing, seat) for seat in range(pool.seats)])
                self.assertIsNone(check_table(pool, table))
                after = core(pool, table)
                self.assertTrue(all(
                    pair is None or set(pair) <= set(after.holders[piece]) for piece, pair in enumerate(dealing)
                ))


class TestCore(unittest.TestCase):
    def test_examples(self):
        pool = Pool([1, 1, 1], [[0, 1, 2]])
        self.assertEqual(core(pool, [[(0, 1)], [(0, 2)], [(0, 0)]]).holders, ((0, 1, 2),))
        pool = Pool([1, 1], [[0, 1], [0, 1]])
        self.assertEqual(table_row(pool, [[(0, 1)], [(0, 0)]]), [0, 1])

    def test_core_against_turns(self):
        dice = random.Random(49)
        for pool in many_pools(200, 49) + many_pools(100, 491, seats=6, pieces=3):
            table = random_table(dice, pool)
            holders, _ = turn_after_turn(pool, table)
            after = core(pool, table)
            self.assertEqual([after.caps, after.holders], [pool.caps, holders])
            for seat in range(pool.seats):
                self.assertTrue(same(play_table(after, table, seat), after))

    def test_the_core_is_what_stays_in_all_rows(self):
        dice = random.Random(492)
        for pool in many_pools(80, 492, seats=3, pieces=3):
            table = random_table(dice, pool)
            rows = reached(pool, table)
            inside = core(pool, table).holders
            self.assertIn(inside, rows)
            for holders in rows:
                self.assertTrue(all(set(row) <= set(now) for row, now in zip(inside, holders)))

    def test_several_turns(self):
        # Each seat is told to be restored by the next one, and the last one by none.
        pool = Pool([1] * 5, [range(5)])
        table = [[(0, seat + 1)] for seat in range(4)] + [[]]
        self.assertEqual(core(pool, table).holders, ((),))
        self.assertEqual(table_row(pool, table), [0, 1, 2, 3, 4] * 4 + [0])
        self.assertIs(is_right(pool, table), False)

    def test_pools_that_are_dead_or_empty(self):
        empty, dead = Pool([1, 1], []), Pool([1, 1], [[0, 1], []])
        self.assertEqual([core(empty, [[], []]).holders, core(dead, [[], []]).holders], [(), ((), ())])
        self.assertEqual([is_right(empty, [[], []]), table_row(empty, [[], []])], [True, None])
        good = [[(0, 1)], [(0, 0)]]
        self.assertEqual([is_right(dead, good), table_row(dead, good)], [False, []])
        self.assertEqual(core(dead, good).holders, ((0, 1), ()))


class TestRight(unittest.TestCase):
    def test_against_a_walk_through_the_losses(self):
        dice = random.Random(50)
        answers = []
        for pool in many_pools(250, 50, seats=3, pieces=3) + many_pools(100, 501, seats=4, pieces=2):
            table = random_table(dice, pool)
            if dice.randrange(3) == 0:
                table = table_of(pool, greatest_dealing(pool))
            dead = [row for holders, row in reached(pool, table).items() if () in holders]
            self.assertIs(is_right(pool, table), not dead)
            _, row = turn_after_turn(pool, table)
            self.assertEqual(table_row(pool, table), row)
            self.assertEqual(row is None, not dead)
            if row:
                self.assertLessEqual(len(row), pool.seats * sum(map(len, pool.holders)))
            answers.append(-1 if row is None else len(row))
        # All kinds of answers come, rows in which a seat comes again too.
        self.assertLessEqual({-1, 0, 1, 2, 3, 4, 5}, set(answers))

    def test_a_safe_pool_has_a_right_table(self):
        for pool in many_pools(200, 502):
            table = table_of(pool, greatest_dealing(pool))
            self.assertIs(is_right(pool, table), is_safe(pool))

    def test_arguments_do_not_change(self):
        table = [[(0, 1)], [(0, 0)], []]
        for call in (check_table, core, is_right, table_row):
            call(POOL, table)
        play_table(POOL, table, 1)
        self.assertEqual(table, [[(0, 1)], [(0, 0)], []])
        self.assertEqual(POOL.holders, ((0, 1), (0, 1, 2), ()))
        pool = Pool([1, 1], [[0, 1], [0, 1]])
        table = [[(0, 1)], [(0, 0)]]
        table_row(pool, table).clear()
        self.assertEqual(table_row(pool, table), [0, 1])
        dealing = [(0, 1), None]
        table_of(pool, dealing)[0].clear()
        table_of(pool, dealing).clear()
        self.assertEqual([table_of(pool, dealing), dealing], [table, [(0, 1), None]])

    def test_time(self):
        dice = random.Random(503)
        chain = [[(piece, seat + 1) for piece in range(60)] for seat in range(11)] + [[]]
        for pool in greatest_pools():
            tables = [random_table(dice, pool, entries=60), table_of(pool, greatest_dealing(pool))]
            if min(pool.caps) >= 60:
                tables.append(chain)
            for table in tables:
                self.assertLess(seconds(check_table, pool, table), 1)
                self.assertLess(seconds(play_table, pool, table, 0), 1)
                self.assertLess(seconds(core, pool, table), 1)
                self.assertLess(seconds(is_right, pool, table), 1)
                self.assertLess(seconds(table_row, pool, table), 1)
            self.assertLess(seconds(table_of, pool, greatest_dealing(pool)), 1)
