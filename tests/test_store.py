"""Points 77 to 80, and 84 to 90: the store without its puts."""

import random
import unittest

from pairwarden.cells import BLANK, write_block
from pairwarden.dealer import is_safe
from pairwarden.errors import (
    CannotHold, InvalidCopy, InvalidDeed, InvalidPool, Lost, Missing, NoStore, PowerCut, Unfinished,
)
from pairwarden.ledger import Ledger
from pairwarden.pool import Pool
from pairwarden.records import read_log, read_record
from pairwarden.store import Store, found
from pairwarden.world import World
from samples import error_of, same
from storing import View, Watched, drawn_call, drawn_world, fault, founded, run, state, watched

GREAT = 10 ** 60 - 1


def lists(store):
    return [
        store.list_names(), store.list_numbers(), store.list_caps(), store.list_copies(), store.list_wardens(),
        store.list_lacking(), store.is_at_rest(), store.list_sends(),
    ]


class TestFounding(unittest.TestCase):
    def test_example(self):
        world = World(3)
        self.assertIsNone(found(world, [1, 1, 1]))
        store = Store(world)
        store.put("a", "hello")
        world.lose(0)
        self.assertEqual([store.read("a"), store.list_sends()], ["hello", [(1, 1, 0)]])

    def test_ordinary(self):
        for caps in ([1, 1, 1], (1, 1, 1), [0, 5, GREAT]):
            world = Watched(3)
            found(world, caps)
            text = "picture " + ",".join(map(str, caps)) + " /;"
            self.assertEqual([world.log, world.disks, world.writes], [[text], [[], [], []], 1])
            self.assertEqual(world.noted, [("log", 0, text)])
            store = Store(world)
            self.assertIs(store.world, world)
            self.assertIs(store.writing, False)
            self.assertEqual(lists(store), [[], [], list(caps), [], [], [], True, []])
            self.assertEqual(world.writes, 1)

    def test_wrong_caps(self):
        world = World(2)
        for caps in ([], [1], [1, 1, 1], (1,), [1, -1], [-1, 1], (-GREAT, 5), [-1], [1, 1, -1]):
            given = list(caps)
            self.assertIsNone(error_of(InvalidPool, found, world, caps).piece)
            self.assertEqual([world.log, world.writes, list(caps)], [[], 0, given])
        found(world, [1, 1])
        before = state(world)
        self.assertIsNone(error_of(InvalidPool, found, world, [1]).piece)
        self.assertEqual(state(world), before)

    def test_caps_are_not_kept(self):
        world, caps = World(2), [1, 1]
        found(world, caps)
        caps[0] = 9
        self.assertEqual(Store(world).list_caps(), [1, 1])

    def test_founding_anew(self):
        world, store = founded([1, 1, 1])
        store.put("a", "hello")
        disks = [list(disk) for disk in world.disks]
        found(world, [2, 3, 4])
        self.assertEqual(world.log[2:], ["picture 2,3,4 /;"])
        self.assertEqual(world.disks, disks)
        other = Store(world)
        self.assertEqual(lists(other), [[], [], [2, 3, 4], [], [], [], True, []])
        error_of(Missing, other.read, "a")
        # What lies on the disks keeps its number, and its slot may be written.
        other.put("a", "new")
        self.assertEqual([other.list_numbers(), other.read("a")], [[2], "new"])
        self.assertEqual(world.log[3:], ["put a=2 / 2:1,2;"])

    def test_cuts(self):
        text = "picture 1,1 /;"
        for kept in range(len(text) + 2):
            world = World(2)
            world.cut_after(0, kept)
            error_of(PowerCut, found, world, [1, 1])
            self.assertEqual(world.log, [text[:kept]])
            if kept < len(text):
                error_of(NoStore, Store, world)
                found(world, [1, 1])
                self.assertEqual(world.log, [text])
            self.assertEqual(Store(world).list_caps(), [1, 1])
        world, store = founded([5, 5])
        store.put("a", "x")
        world.cut_after(0, len(text) - 1)
        error_of(PowerCut, found, world, [1, 1])
        self.assertEqual([store.list_caps(), store.read("a"), world.log[2]], [[5, 5], "x", text[:-1]])
        found(world, [1, 1])
        self.assertEqual(world.log[2:], [text])

    def test_opening(self):
        error_of(NoStore, Store, World(1))
        world = World(1)
        for text in ("", "erase a;", "picture 1 /"):
            world.write_log(0, text)
            error_of(NoStore, Store, world)
        world, store = founded([1, 1])
        before = state(world)
        Store(world)
        self.assertEqual(state(world), before)


class TestLists(unittest.TestCase):
    def test_ordinary(self):
        world, store = founded([2, 2, 2])
        store.put("b", "12345678abc", at=(2, 0))
        store.put("a", "", at=(1,))
        store.put("c", "x")
        self.assertEqual(store.list_names(), ["a", "b", "c"])
        self.assertEqual(store.list_numbers(), [1, 2, 3])
        self.assertEqual(store.list_caps(), [2, 2, 2])
        self.assertEqual(store.list_copies(), [(0, 2), (0, 2), (0, 1)])
        self.assertEqual(store.list_wardens(), [(0, 2), (0, 2), (0, 1)])
        self.assertEqual([store.list_lacking(), store.is_at_rest(), store.list_sends()], [[], True, []])
        self.assertTrue(same(store.as_pool(), Pool([2, 2, 2], [(0, 2), (0, 2), (0, 1)])))
        self.assertEqual([store.read("a"), store.read("b"), store.read("c")], ["", "12345678abc", "x"])
        world.lose(0)
        self.assertEqual(store.list_copies(), [(2,), (2,), (1,)])
        self.assertEqual(store.list_lacking(), [(1, 0), (2, 0), (3, 0)])
        self.assertEqual([store.is_at_rest(), store.list_wardens()], [False, [(0, 2), (0, 2), (0, 1)]])
        self.assertEqual(store.list_sends(), [(1, 2, 0), (2, 2, 0), (3, 1, 0)])
        self.assertEqual(store.as_pool().holders, ((2,), (2,), (1,)))
        world.lose_cells(2, [1])
        self.assertEqual(store.list_copies(), [(2,), (), (1,)])
        self.assertEqual(store.list_lacking(), [(1, 0), (2, 0), (2, 2), (3, 0)])
        self.assertEqual(store.list_sends(), [(1, 2, 0), (3, 1, 0)])
        self.assertEqual(error_of(Lost, store.read, "b").name, "b")
        self.assertEqual([store.read("a"), store.read("c")], ["", "x"])

    def test_missing_comes_before_lost(self):
        world, store = founded([1, 1])
        store.put("a", "x")
        world.lose(0)
        world.lose(1)
        self.assertEqual(error_of(Lost, store.read, "a").name, "a")
        for name in ("b", "", "A", "no name", "abcdefghijklm"):
            self.assertEqual(error_of(Missing, store.read, name).name, name)

    def test_copies_that_are_no_stored_pieces(self):
        world, store = founded([2, 2, 2])
        store.put("a", "old")
        store.put("a", "new")
        # The old blocks are still there, but no piece has their number any more.
        self.assertEqual([store.list_numbers(), store.list_copies()], [[2], [(0, 1)]])
        self.assertEqual(world.disks[1], [write_block(1, "old"), write_block(2, "new")])
        store.erase("a")
        self.assertEqual(lists(store), [[], [], [2, 2, 2], [], [], [], True, []])

    def test_two_stores_of_one_world(self):
        world, first = founded([2, 2, 2])
        second = Store(world)
        first.put("a", "one")
        self.assertEqual([second.read("a"), lists(first)], ["one", lists(second)])
        second.put("b", "two")
        second.set_cap(0, 7)
        world.lose(1)
        self.assertEqual([first.read("b"), first.list_caps(), lists(first)], ["two", [7, 2, 2], lists(second)])
        first.mend()
        self.assertIs(second.is_at_rest(), True)

    def test_drawn_worlds(self):
        dice = random.Random(79)
        for _ in range(300):
            world = drawn_world(dice)
            view, store, before = View(world), Store(world), state(world)
            self.assertEqual(store.list_names(), sorted(view.ledger.names))
            self.assertEqual(store.list_numbers(), view.numbers)
            self.assertEqual(store.list_caps(), view.ledger.caps)
            self.assertEqual(store.list_copies(), view.copies)
            self.assertEqual(store.list_wardens(), view.wardens)
            self.assertEqual(store.list_lacking(), view.lacking)
            self.assertIs(store.is_at_rest(), not view.lacking)
            self.assertEqual(store.list_sends(), view.sends)
            self.assertTrue(same(store.as_pool(), view.pool))
            for name in ["a", "b2", "c", "nothing"]:
                text = view.read(name)
                if isinstance(text, str):
                    self.assertEqual(store.read(name), text)
                else:
                    self.assertEqual(error_of(text, store.read, name).name, name)
            self.assertEqual(state(world), before)
            self.assertIs(store.writing, False)

    def test_new_lists(self):
        world, store = founded([2, 2, 2])
        store.put("a", "1234567890")
        world.lose(0)
        before = lists(store)
        for name in ("names", "numbers", "caps", "copies", "wardens", "lacking", "sends"):
            rows = getattr(store, f"list_{name}")()
            self.assertIsInstance(rows, list)
            rows.append(None)
        self.assertEqual(lists(store), before)


class Calls(unittest.TestCase):
    """What the tests of single methods share."""

    def right(self, store, *call):
        """Run a call that is compared with what the points say."""
        if not isinstance(store.world, Watched):
            raise AssertionError
        self.assertIsNone(fault(store.world, call))

    def refused(self, kind, store, *call):
        """Run a call that raises an error, and return the error."""
        before = state(store.world)
        error = error_of(kind, run, store, call)
        self.assertEqual(state(store.world), before)
        self.assertIs(store.writing, False)
        self.right(store, *call)
        return vars(error)

    def tight(self):
        """A store with three pieces and three places."""
        world, store = founded([1, 1, 1])
        store.put("a", "1234567812345678abc")
        return world, store


class TestErase(Calls):
    def test_ordinary(self):
        world, store = self.tight()
        disks = [list(disk) for disk in world.disks]
        self.right(store, "erase", "a")
        self.assertEqual([world.log[-1], world.disks, store.list_names()], ["erase a;", disks, []])
        self.assertEqual(self.refused(Missing, store, "erase", "a"), {"name": "a"})
        self.assertEqual(self.refused(Missing, store, "erase", "no name"), {"name": "no name"})

    def test_not_at_rest(self):
        world, store = self.tight()
        store.put("b", "")
        world.lose(0)
        self.right(store, "erase", "b")
        world.lose(1)
        self.right(store, "erase", "a")
        self.assertEqual([store.list_names(), store.is_at_rest()], [[], True])


class TestSends(Calls):
    def test_the_sender(self):
        world, store = founded([1, 1, 1, 1])
        store.put("a", "x", at=(3, 1, 0, 2))
        pair = store.list_wardens()[0]
        others = [seat for seat in range(4) if seat not in pair]
        world.lose(pair[0])
        self.assertEqual(store.list_sends(), [(1, pair[1], pair[0])])
        world.lose(pair[1])
        self.assertEqual(store.list_sends(), [(1, others[0], pair[0]), (1, others[0], pair[1])])
        world.lose(others[0])
        self.assertEqual(store.list_sends(), [(1, others[1], pair[0]), (1, others[1], pair[1])])
        world.lose(others[1])
        self.assertEqual([store.list_sends(), store.list_lacking()], [[], [(1, pair[0]), (1, pair[1])]])

    def test_the_other_warden_before_lower_seats(self):
        world, store = founded([0, 1, 1])
        store.put("a", "x", at=(0, 1, 2))
        self.assertEqual(store.list_wardens(), [(1, 2)])
        world.lose(1)
        self.assertEqual(store.list_sends(), [(1, 2, 1)])
        world.lose(2)
        self.assertEqual(store.list_sends(), [(1, 0, 1), (1, 0, 2)])

    def test_send(self):
        world, store = self.tight()
        world.lose(0)
        lacking = store.list_lacking()
        self.assertEqual(len(lacking), 2)
        for number, seat in [(1, 1), (1, 2), (1, 3), (0, 0), (4, 0), (1, -1), (-1, 0), (GREAT, 0), (1, GREAT)]:
            if (number, seat) not in lacking:
                self.assertEqual(self.refused(InvalidCopy, store, "send", number, seat), {"number": number, "seat": seat})
        self.right(store, "send", *lacking[1])
        self.assertEqual(store.list_lacking(), lacking[:1])
        self.refused(InvalidCopy, store, "send", *lacking[1])
        self.right(store, "send", *lacking[0])
        self.assertIs(store.is_at_rest(), True)
        self.refused(InvalidCopy, store, "send", *lacking[0])
        self.assertEqual(store.read("a"), "1234567812345678abc")

    def test_what_cannot_be_sent(self):
        world, store = founded([1, 1, 1])
        store.put("a", "x")
        world.lose(0)
        world.lose(1)
        for number, seat in store.list_lacking():
            self.refused(InvalidCopy, store, "send", number, seat)

    def test_the_slot(self):
        world, store = founded([3, 3])
        store.put("a", "one")
        store.put("b", "two")
        store.put("c", "three")
        store.erase("a")
        world.lose_cells(0, [1])
        # The lowest slot has a block that nobody needs: it is made blank first.
        world.noted.clear()
        store.send(2, 0)
        self.assertEqual(world.noted, [("cell", 0, 0, BLANK), ("cell", 0, 0, write_block(2, "two"))])
        world.lose_cells(0, [0])
        world.noted.clear()
        store.send(2, 0)
        self.assertEqual(world.noted, [("cell", 0, 0, write_block(2, "two"))])


class TestMend(Calls):
    def test_ordinary(self):
        world, store = self.tight()
        store.erase("a")
        store.put("b", "new")
        world.lose(1)
        self.right(store, "mend")
        self.assertIs(store.is_at_rest(), True)
        before = state(world)
        self.right(store, "mend")
        self.assertEqual(state(world), before)
        self.assertEqual(sorted(set(sum(world.disks, []))), sorted([BLANK, write_block(4, "new")]))

    def test_nothing_to_do(self):
        world, store = founded([1, 1])
        self.right(store, "mend")
        store.put("a", "x")
        before = state(world)
        self.right(store, "mend")
        self.assertEqual(state(world), before)

    def test_what_is_lost_stays_lost(self):
        world, store = founded([2, 2, 2])
        store.put("a", "one")
        store.put("b", "two", at=(0, 2))
        world.lose(0)
        world.lose(1)
        self.right(store, "mend")
        self.assertEqual([store.list_copies(), store.list_lacking()], [[(), (0, 2)], [(1, 0), (1, 1)]])
        error_of(Lost, store.read, "a")
        before = state(world)
        self.right(store, "mend")
        self.assertEqual(state(world), before)

    def test_cut_at_every_write(self):
        dice = random.Random(86)
        cuts = 0
        for _ in range(60):
            start = drawn_world(dice, caps=(1, 2, 3))
            start.lose(dice.randrange(start.seats))
            whole = start.twin()
            Store(whole).mend()
            for write in range(whole.writes - start.writes):
                for kept in range(19):
                    world = start.twin()
                    world.cut_after(write, kept)
                    error_of(PowerCut, Store(world).mend)
                    self.assertEqual(View(world).ledger.names, View(start).ledger.names)
                    Store(world).mend()
                    self.assertEqual([world.disks, world.log], [whole.disks, whole.log])
                    writes = world.writes
                    Store(world).mend()
                    self.assertEqual(world.writes, writes)
                    cuts += 1
        self.assertGreater(cuts, 400)


class TestCopies(Calls):
    def test_add(self):
        world, store = founded([1, 1, 1])
        store.put("a", "x")
        for number, seat in ((1, 0), (1, 1), (0, 2), (2, 2), (1, 3), (1, -1), (-1, 2)):
            self.assertEqual(self.refused(InvalidCopy, store, "add_copy", number, seat), {"number": number, "seat": seat})
        self.right(store, "add_copy", 1, 2)
        self.assertEqual([store.list_copies(), store.list_wardens()], [[(0, 1, 2)], [(0, 1)]])
        self.refused(InvalidCopy, store, "add_copy", 1, 2)
        world.lose(2)
        self.right(store, "add_copy", 1, 2)
        world.lose(1)
        self.assertEqual(self.refused(Unfinished, store, "add_copy", 1, 1), {"copies": [(1, 1)]})
        # What is wrong with the copy comes before what is unfinished.
        self.refused(InvalidCopy, store, "add_copy", 1, 2)
        self.refused(InvalidCopy, store, "add_copy", 1, 3)
        self.refused(InvalidCopy, store, "add_copy", 2, 0)

    def test_drop_of_a_copy_of_no_warden(self):
        world, store = founded([1, 1, 1])
        store.put("a", "x")
        store.add_copy(1, 2)
        log = list(world.log)
        self.right(store, "drop_copy", 1, 2)
        self.assertEqual([world.log, store.list_copies(), world.disks[2]], [log, [(0, 1)], [BLANK]])
        self.assertEqual(self.refused(InvalidCopy, store, "drop_copy", 1, 2), {"number": 1, "seat": 2})

    def test_drop_of_a_copy_of_a_warden(self):
        world, store = founded([1, 1, 1])
        store.put("a", "x")
        store.add_copy(1, 2)
        self.right(store, "drop_copy", 1, 0)
        self.assertEqual([world.log[-1], store.list_wardens()], ["deal / 1:1,2;", [(1, 2)]])
        self.assertEqual(self.refused(CannotHold, store, "drop_copy", 1, 1), {"lot": [1]})
        self.assertEqual(world.noted, [])

    def test_a_drop_that_moves_others(self):
        world, store = founded([1, 1, 1])
        store.put("a", "x", at=(0, 1, 2))
        store.put("b", "y", at=(0, 1, 2))
        store.put("c", "z")
        first, second, third = store.list_wardens()
        # Without this seat, the first piece can only have the pair of the second one.
        seat = next(seat for seat in range(3) if seat not in second)
        self.right(store, "drop_copy", 1, seat)
        self.assertEqual(store.list_wardens(), [second, first, third])
        self.assertEqual(read_record(world.log[-1]), ("deal", ((1, *second), (2, *first))))
        self.assertTrue(is_safe(store.as_pool()))

    def test_errors_of_drop(self):
        world, store = self.tight()
        for number, seat in ((0, 0), (4, 0), (1, 3), (1, -1), (-1, 0), (GREAT, GREAT)):
            self.assertEqual(self.refused(InvalidCopy, store, "drop_copy", number, seat), {"number": number, "seat": seat})
        seats = store.list_copies()[0]
        self.assertEqual(self.refused(CannotHold, store, "drop_copy", 1, seats[0]), {"lot": [1]})
        world.lose(0)
        lacking = store.list_lacking()
        self.assertEqual(self.refused(Unfinished, store, "drop_copy", 3, 2), {"copies": lacking})
        self.refused(InvalidCopy, store, "drop_copy", *lacking[0])
        self.refused(InvalidCopy, store, "drop_copy", 1, 3)

    def test_the_lot_of_a_drop(self):
        world, store = founded([1, 1, 1])
        store.put("x", "x")
        store.erase("x")
        store.put("a", "x", at=(0, 1, 2))
        store.put("b", "y", at=(0, 1))
        store.put("c", "z", at=(0, 2))
        self.assertEqual(store.list_wardens(), [(1, 2), (0, 1), (0, 2)])
        error = self.refused(CannotHold, store, "drop_copy", 2, 1)
        self.assertEqual(error, {"lot": [2, 4]})
        self.right(store, "drop_copy", 2, 0)


class TestCaps(Calls):
    def test_ordinary(self):
        world, store = founded([2, 2, 2])
        store.put("a", "1234567812345678")
        self.right(store, "set_cap", 0, 5)
        self.assertEqual([world.log[-1], store.list_caps()], ["cap 0 5 /;", [5, 2, 2]])
        self.right(store, "set_cap", 0, 5)
        self.assertEqual(world.log[-1], "cap 0 5 /;")
        self.right(store, "set_cap", 2, GREAT)
        self.right(store, "set_cap", 2, 1)
        self.assertEqual(store.list_caps(), [5, 2, 1])

    def test_wardens_that_change(self):
        world, store = founded([1, 1, 1])
        store.put("a", "x", at=(0, 1, 2))
        pair = store.list_wardens()[0]
        self.right(store, "set_cap", pair[0], 0)
        rest = tuple(seat for seat in range(3) if seat != pair[0])
        self.assertEqual([store.list_wardens(), world.log[-1]], [[rest], f"cap {pair[0]} 0 / 1:{rest[0]},{rest[1]};"])
        self.right(store, "set_cap", pair[0], 1)
        self.assertEqual(world.log[-1], f"cap {pair[0]} 1 /;")

    def test_errors(self):
        world, store = self.tight()
        for seat, cap in ((3, 1), (-1, 1), (0, -1), (9, -9), (GREAT, 0)):
            self.assertEqual(self.refused(InvalidDeed, store, "set_cap", seat, cap), {"deed": ("cap", seat, cap)})
        self.assertEqual(self.refused(CannotHold, store, "set_cap", 0, 0), {"lot": [1, 2]})
        self.assertEqual(store.list_wardens(), [(0, 1), (0, 2), (1, 2)])
        self.assertEqual(self.refused(CannotHold, store, "set_cap", 1, 0), {"lot": [1, 3]})
        world.lose(0)
        lacking = store.list_lacking()
        self.assertEqual(self.refused(Unfinished, store, "set_cap", 0, 0), {"copies": lacking})
        self.assertEqual(self.refused(Unfinished, store, "set_cap", 0, 5), {"copies": lacking})
        self.refused(InvalidDeed, store, "set_cap", 0, -1)
        self.refused(InvalidDeed, store, "set_cap", 3, 0)


class TestPack(Calls):
    def test_ordinary(self):
        world, store = founded([2, 2])
        self.right(store, "pack")
        self.assertEqual(world.log, ["", "picture 2,2 /;"])
        store.put("b", "x")
        store.put("a", "")
        store.set_cap(0, 3)
        self.right(store, "pack")
        self.assertEqual(world.log, [""] * 5 + ["picture 3,2 a= b=1 / 1:0,1;"])
        self.right(store, "pack")
        self.assertEqual(world.log, [""] * 6 + ["picture 3,2 a= b=1 / 1:0,1;"])
        self.assertEqual(lists(store), [["a", "b"], [1], [3, 2], [(0, 1)], [(0, 1)], [], True, []])

    def test_not_at_rest(self):
        world, store = self.tight()
        world.lose(0)
        before = lists(store)
        self.right(store, "pack")
        self.assertEqual(lists(store), before)

    def test_empty_and_torn_strings(self):
        world, store = founded([2, 2])
        store.put("a", "x")
        world.cut_after(2, 9)
        error_of(PowerCut, store.put, "b", "y")
        self.assertEqual(world.log[2], "put b=2 /")
        self.right(store, "pack")
        self.assertEqual(world.log, ["", "", "picture 2,2 a=1 / 1:0,1;"])

    def test_cut_at_every_write(self):
        dice = random.Random(90)
        for _ in range(12):
            start = drawn_world(dice)
            whole = start.twin()
            Store(whole).pack()
            for write in range(whole.writes - start.writes):
                for kept in (0, 1, 5, 20, 300):
                    world = start.twin()
                    world.cut_after(write, kept)
                    error_of(PowerCut, Store(world).pack)
                    self.assertEqual(lists(Store(world)), lists(Store(start)))
                    self.assertIsNone(fault(watched(world), ("pack",)))

    def test_numbers_that_come_again(self):
        world, store = founded([2, 2])
        store.put("a", "x")
        store.put("b", "y")
        store.erase("b")
        store.mend()
        self.assertEqual(Ledger(read_log(world.log)).top, 2)
        self.right(store, "put", "c", "z")
        self.assertEqual(store.list_numbers(), [1, 3])
        store.erase("c")
        store.mend()
        store.pack()
        self.right(store, "put", "c", "z")
        self.assertEqual(store.list_numbers(), [1, 2])


class TestDrawnCalls(unittest.TestCase):
    def test_each_call(self):
        dice = random.Random(88)
        counts = {}
        for _ in range(250):
            world = drawn_world(dice)
            for _ in range(6):
                call = drawn_call(dice, world)
                before = world.writes
                self.assertIsNone(fault(world, call), call)
                if call[0] == "mend" and dice.randrange(2):
                    world.lose(dice.randrange(world.seats))
                counts[call[0], world.writes > before] = counts.get((call[0], world.writes > before), 0) + 1
        for name in ("put", "send", "mend", "add_copy", "drop_copy", "set_cap", "erase"):
            self.assertGreater(min(counts[name, True], counts[name, False]), 5, counts)
        self.assertGreater(counts["pack", True], 50)
