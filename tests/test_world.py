"""Points 70 to 72."""

import random
import unittest

from pairwarden.cells import BLANK, write_block
from pairwarden.errors import PowerCut
from pairwarden.world import World
from samples import error_of

A, B, C = write_block(1, "a"), write_block(2, "bb"), write_block(3, "ccc")


def state(world):
    return [
        world.seats, [list(disk) for disk in world.disks], list(world.log), world.writes, world.fuse, world.kept,
    ]


class TestWorld(unittest.TestCase):
    def test_a_new_world(self):
        for seats in (1, 2, 6):
            world = World(seats)
            self.assertEqual(state(world), [seats, [[] for _ in range(seats)], [], 0, None, 0])
        world.disks[0].append(A)
        self.assertEqual([World(6).disks, world.disks[1]], [[[]] * 6, []])

    def test_write_cell(self):
        world = World(2)
        self.assertIsNone(world.write_cell(0, 0, A))
        self.assertEqual(state(world), [2, [[A], []], [], 1, None, 0])
        world.write_cell(1, 3, B)
        self.assertEqual(state(world), [2, [[A], [BLANK, BLANK, BLANK, B]], [], 2, None, 0])
        world.write_cell(1, 1, C)
        world.write_cell(1, 3, A)
        world.write_cell(0, 1, BLANK)
        self.assertEqual(state(world), [2, [[A, BLANK], [BLANK, C, BLANK, A]], [], 5, None, 0])

    def test_write_log(self):
        world = World(1)
        self.assertIsNone(world.write_log(0, "one"))
        world.write_log(1, "")
        world.write_log(2, "three")
        self.assertEqual(state(world), [1, [[]], ["one", "", "three"], 3, None, 0])
        world.write_log(0, "")
        world.write_log(1, "a longer string")
        self.assertEqual(state(world), [1, [[]], ["", "a longer string", "three"], 5, None, 0])


class TestCuts(unittest.TestCase):
    def test_the_fuse(self):
        world = World(1)
        self.assertIsNone(world.cut_after(2, 5))
        self.assertEqual(state(world), [1, [[]], [], 0, 2, 5])
        world.write_cell(0, 0, A)
        self.assertEqual(state(world), [1, [[A]], [], 1, 1, 5])
        world.write_log(0, "abc")
        self.assertEqual(state(world), [1, [[A]], ["abc"], 2, 0, 5])
        error_of(PowerCut, world.write_cell, 0, 0, B)
        self.assertEqual(state(world), [1, [[B[:5] + A[5:]]], ["abc"], 3, None, 5])
        world.write_cell(0, 0, C)
        world.write_log(1, "abc")
        self.assertEqual(state(world), [1, [[C]], ["abc", "abc"], 5, None, 5])

    def test_a_second_cut(self):
        world = World(1)
        world.cut_after(0, 2)
        error_of(PowerCut, world.write_log, 0, "abcd")
        self.assertEqual(state(world), [1, [[]], ["ab"], 1, None, 2])
        world.cut_after(1, 3)
        world.cut_after(0, 1)
        error_of(PowerCut, world.write_log, 0, "wxyz")
        self.assertEqual(state(world), [1, [[]], ["wb"], 2, None, 1])
        world.cut_after(1, 0)
        world.write_log(0, "new")
        error_of(PowerCut, world.write_log, 0, "newer")
        self.assertEqual(state(world), [1, [[]], ["new"], 4, None, 0])

    def test_what_is_appended_stays(self):
        for kept, cell in ((0, BLANK), (1, "<" + BLANK[1:]), (16, A[:16] + "-"), (17, A), (18, A), (99, A)):
            world = World(1)
            world.cut_after(0, kept)
            error_of(PowerCut, world.write_cell, 0, 2, A)
            self.assertEqual(state(world), [1, [[BLANK, BLANK, cell]], [], 1, None, kept])
        for kept, text in ((0, ""), (1, "a"), (3, "abc"), (4, "abc")):
            world = World(1)
            world.cut_after(0, kept)
            error_of(PowerCut, world.write_log, 0, "abc")
            self.assertEqual(state(world), [1, [[]], [text], 1, None, kept])

    def test_kept_greater_than_the_string(self):
        # The rest of a longer old string is gone exactly if the new one is written whole.
        for kept, text in ((0, "abcdef"), (1, "xbcdef"), (2, "xycdef"), (3, "xyz"), (4, "xyz"), (6, "xyz"), (50, "xyz")):
            world = World(1)
            world.write_log(0, "abcdef")
            world.cut_after(0, kept)
            error_of(PowerCut, world.write_log, 0, "xyz")
            self.assertEqual(world.log, [text])
        for kept in (0, 1, 5):
            world = World(1)
            world.write_log(0, "abc")
            world.cut_after(0, kept)
            error_of(PowerCut, world.write_log, 0, "")
            self.assertEqual(world.log, [""])

    def test_only_writes_burn_the_fuse(self):
        world = World(2)
        world.write_cell(0, 1, A)
        world.cut_after(1, 0)
        world.lose(1)
        world.lose_cells(0, [0, 1])
        other = world.twin()
        self.assertEqual([world.fuse, world.writes, other.fuse, other.writes], [1, 1, 1, 1])

    def test_drawn_writes(self):
        dice = random.Random(71)
        for _ in range(200):
            world = World(2)
            disks, log, writes, fuse, kept = [[], []], [], 0, None, 0
            for _ in range(12):
                if dice.randrange(3) == 0:
                    fuse, kept = dice.randrange(4), dice.choice((0, 1, 5, 16, 17, 30))
                    world.cut_after(fuse, kept)
                at, where = dice.randrange(5), dice.randrange(3)
                if where < 2:
                    cell = dice.choice((A, B, C, BLANK))
                    disks[where] += [BLANK] * (at + 1 - len(disks[where]))
                    row, new, call, args = disks[where], cell, world.write_cell, (where, at, cell)
                else:
                    at = min(at, len(log))
                    log += [""] * (at + 1 - len(log))
                    new = "xyz" * dice.randrange(4)
                    row, call, args = log, world.write_log, (at, new)
                writes += 1
                if fuse == 0:
                    row[at] = new if kept >= len(new) else new[:kept] + row[at][kept:]
                    fuse = None
                    error_of(PowerCut, call, *args)
                else:
                    row[at] = new
                    fuse = fuse and fuse - 1
                    self.assertIsNone(call(*args))
                self.assertEqual(state(world), [2, disks, log, writes, fuse, kept])


class TestLosses(unittest.TestCase):
    def full(self):
        world = World(2)
        for seat in (0, 1):
            for slot, cell in enumerate((A, B, C)):
                world.write_cell(seat, slot, cell)
        return world

    def test_lose(self):
        world = self.full()
        self.assertIsNone(world.lose(1))
        self.assertEqual(state(world), [2, [[A, B, C], []], [], 6, None, 0])
        world.lose(1)
        self.assertEqual(world.disks, [[A, B, C], []])

    def test_lose_cells(self):
        world = self.full()
        self.assertIsNone(world.lose_cells(0, [1]))
        self.assertEqual(state(world), [2, [[A, BLANK, C], [A, B, C]], [], 6, None, 0])
        slots = [2, 0, 2, 3, 99]
        world.lose_cells(1, slots)
        self.assertEqual(state(world), [2, [[A, BLANK, C], [BLANK, B, BLANK]], [], 6, None, 0])
        self.assertEqual(slots, [2, 0, 2, 3, 99])
        world.lose_cells(0, [])
        world.lose(0)
        world.lose_cells(0, [0, 1])
        self.assertEqual(world.disks, [[], [BLANK, B, BLANK]])

    def test_twins(self):
        world = self.full()
        world.write_log(0, "abc")
        world.cut_after(7, 3)
        other = world.twin()
        self.assertIsInstance(other, World)
        before = state(world)
        self.assertEqual(state(other), before)
        other.write_cell(0, 0, BLANK)
        other.write_cell(1, 5, A)
        other.write_log(0, "new")
        other.write_log(1, "new")
        other.lose_cells(0, [1])
        other.cut_after(9, 9)
        self.assertEqual(state(world), before)
        after = state(other)
        world.lose(0)
        world.lose_cells(1, [0])
        world.write_log(1, "old")
        world.cut_after(0, 0)
        error_of(PowerCut, world.write_cell, 1, 1, A)
        self.assertEqual(state(other), after)
        self.assertEqual(state(World(3).twin()), state(World(3)))
