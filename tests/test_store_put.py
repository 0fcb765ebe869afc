"""Points 81 to 83: how a store puts a text."""

import random
import unittest

from pairwarden.cells import BLANK, write_block
from pairwarden.errors import CannotHold, InvalidName, InvalidSeats, PowerCut, Unfinished
from pairwarden.records import read_record
from samples import error_of, seconds
from storing import Watched, drawn_call, drawn_world, fault, founded, state

GREAT = 10 ** 60 - 1


class Puts(unittest.TestCase):
    def right(self, store, *call):
        self.assertIsNone(fault(store.world, ("put", *call)))

    def refused(self, kind, store, name, text, at=()):
        before = state(store.world)
        error = error_of(kind, store.put, name, text, at=at)
        self.assertEqual(state(store.world), before)
        self.right(store, name, text, at)
        return vars(error)


class TestErrors(Puts):
    def test_names(self):
        world, store = founded([2, 2])
        for name in ("", "A", "aB", "a b", " a", "a-b", "a_b", "a=", "a;", "a,b", "a:", "a@1", "abcdefghijklm", "a\n", "\n", "-"):
            self.assertEqual(self.refused(InvalidName, store, name, "x"), {"name": name})
        for name in ("a", "z", "0", "9", "abcdefghijkl", "012345678901", "a0b1"):
            self.right(store, name, "")
        self.assertEqual(len(store.list_names()), 7)

    def test_seats(self):
        world, store = founded([2, 2, 2])
        for at in ((3,), (-1,), (0, 3), (0, -3), (0, 0), (1, 0, 1), (0, 1, 2, 3), (GREAT, 0), (2, 2)):
            self.assertEqual(self.refused(InvalidSeats, store, "a", "x", at), {"seats": at})
            self.assertEqual(self.refused(InvalidSeats, store, "a", "", at), {"seats": at})

    def test_not_at_rest(self):
        world, store = founded([2, 2, 2])
        store.put("a", "12345678x", at=(0, 1))
        store.put("b", "y", at=(1, 2))
        world.lose(0)
        self.assertEqual(self.refused(Unfinished, store, "c", "z"), {"copies": [(1, 0), (2, 0)]})
        self.assertEqual(self.refused(Unfinished, store, "c", ""), {"copies": [(1, 0), (2, 0)]})
        # The pieces of the old text of the name count, too.
        self.assertEqual(self.refused(Unfinished, store, "a", "z"), {"copies": [(1, 0), (2, 0)]})
        store.erase("a")
        self.right(store, "c", "z")

    def test_what_cannot_be_held(self):
        world, store = founded([1, 1, 1])
        self.assertEqual(self.refused(CannotHold, store, "a", "12345678" * 4), {"lot": [1, 2, 3, 4]})
        self.assertEqual(self.refused(CannotHold, store, "a", "x", (0,)), {"lot": [1]})
        self.assertEqual(self.refused(CannotHold, store, "a", "123456789", (0, 1)), {"lot": [1, 2]})
        self.right(store, "a", "1234567812345678", (2, 1, 0))
        self.assertEqual(self.refused(CannotHold, store, "b", "123456789"), {"lot": [1, 2, 3, 4]})
        self.assertEqual(self.refused(CannotHold, store, "b", "x", (1,)), {"lot": [3]})
        self.right(store, "b", "x", (0, 1))
        # The old text of the name does not count here.
        self.assertEqual(self.refused(CannotHold, store, "c", "x"), {"lot": [1, 2, 3, 4]})
        self.right(store, "b", "y")
        self.assertEqual(self.refused(CannotHold, store, "b", "123456789", (0, 2)), {"lot": [5, 6]})
        self.right(store, "a", "12345678" * 2, (0, 1, 2))

    def test_few_seats_and_small_caps(self):
        world, store = founded([5])
        self.assertEqual(self.refused(CannotHold, store, "a", "x"), {"lot": [1]})
        self.assertEqual(self.refused(CannotHold, store, "a", "x", (0,)), {"lot": [1]})
        self.right(store, "a", "")
        self.right(store, "b", "", (0,))
        world, store = founded([0, 0, 5])
        self.assertEqual(self.refused(CannotHold, store, "a", "x"), {"lot": [1]})
        self.right(store, "a", "")
        world, store = founded([0, 5, 5])
        self.right(store, "a", "x")
        self.assertEqual(store.list_copies(), [(1, 2)])
        self.assertEqual(self.refused(CannotHold, store, "a", "x", (0, 1)), {"lot": [2]})

    def test_which_error_is_told(self):
        world, store = founded([1, 1, 1])
        store.put("a", "x", at=(0, 1))
        world.lose(0)
        self.assertEqual(self.refused(InvalidName, store, "A", "x" * 99, (7,)), {"name": "A"})
        self.assertEqual(self.refused(InvalidSeats, store, "b", "x" * 99, (7,)), {"seats": (7,)})
        self.assertEqual(self.refused(Unfinished, store, "b", "x" * 99, (0,)), {"copies": [(1, 0)]})
        store.mend()
        self.assertEqual(self.refused(InvalidSeats, store, "b", "x" * 99, (0, 0)), {"seats": (0, 0)})
        self.assertEqual(len(self.refused(CannotHold, store, "b", "x" * 25, (0, 1, 2))["lot"]), 5)


class TestPieces(Puts):
    def test_lengths(self):
        for length, pieces in ((0, 0), (1, 1), (7, 1), (8, 1), (9, 2), (16, 2), (17, 3), (319, 40), (320, 40)):
            text = ("abcdefg-" * 40)[:length]
            for at in ((), (0, 1), (2, 0, 1)):
                world, store = founded([50, 50, 50])
                self.right(store, "a", text, at)
                self.assertEqual([store.read("a"), len(store.list_numbers())], [text, pieces])
                self.assertEqual(store.list_numbers(), list(range(1, pieces + 1)))

    def test_texts_with_dashes_and_spaces(self):
        dice = random.Random(82)
        world, store = founded([9, 9, 9])
        for text in ["-", "--------", " ", "        -", "-" * 40, " - " * 9, "<0000011a------->", "a" * 7 + "-", "picture 1 /;"]:
            self.right(store, "a", text)
            self.assertEqual(store.read("a"), text)
        for _ in range(50):
            text = "".join(dice.choices("-- <>a;", k=dice.randrange(40)))
            self.right(store, "a", text)
            self.assertEqual(store.read("a"), text)

    def test_a_name_put_again(self):
        world, store = founded([3, 3, 3])
        store.put("a", "first text of the name")
        store.put("b", "other")
        self.right(store, "a", "second")
        self.assertEqual([store.read("a"), store.read("b"), store.list_numbers()], ["second", "other", [4, 5]])
        self.right(store, "a", "")
        self.assertEqual([store.read("a"), store.list_numbers()], ["", [4]])
        self.right(store, "a", "third")
        self.assertEqual(store.list_numbers(), [4, 6])


class TestSeats(Puts):
    def test_one_two_and_more_seats(self):
        world, store = founded([2, 2, 2, 2])
        for at in ((1, 0), (3, 2), (2, 0, 3), (3, 2, 1, 0)):
            self.right(store, "a", "12345678x", at)
            self.assertEqual(store.list_copies(), [tuple(sorted(at))] * 2)
        self.refused(CannotHold, store, "a", "x", (3,))
        self.right(store, "a", "", (3,))
        self.assertEqual(store.list_copies(), [])

    def test_others_make_way(self):
        world, store = founded([1, 1, 1])
        store.put("a", "x", at=(0, 1, 2))
        pair = store.list_wardens()[0]
        self.right(store, "b", "y", pair)
        self.assertEqual(store.list_wardens()[1], pair)
        self.assertNotEqual(store.list_wardens()[0], pair)
        record = read_record(world.log[-1])
        self.assertEqual(record[3], ((1, *store.list_wardens()[0]), (2, *pair)))

    def test_the_seats_that_the_store_chooses(self):
        world, store = founded([1, 2, 3, 3])
        # The rooms are 1 for each pair with seat 0, 2 for (1, 2) and (1, 3), and 3 for (2, 3).
        chosen = [(2, 3), (1, 2), (1, 3), (2, 3), (0, 1), (0, 2), (0, 3), (1, 2), (1, 3), (2, 3)]
        self.right(store, "a", "x" * 80)
        self.assertEqual([store.list_wardens(), store.list_copies()], [chosen, chosen])
        self.refused(CannotHold, store, "b", "x")
        store.erase("a")
        for at, pair in enumerate(chosen):
            self.right(store, f"n{at}", "x")
            self.assertEqual(store.list_wardens()[-1], pair)

    def test_places_of_the_old_text_are_free(self):
        world, store = founded([1, 1, 1])
        store.put("a", "x")
        store.put("b", "y")
        self.assertEqual(store.list_wardens(), [(0, 1), (0, 2)])
        self.right(store, "a", "z")
        self.assertEqual(store.list_wardens(), [(0, 2), (0, 1)])

    def test_great_caps(self):
        world, store = founded([GREAT] * 6)
        self.right(store, "a", "x" * 320)
        self.assertEqual(store.list_wardens()[:4], [(0, 1), (0, 2), (0, 3), (0, 4)])

    def test_arguments_do_not_change(self):
        world, store = founded([2, 2, 2])
        at = (2, 0)
        self.assertIsNone(store.put("a", "x", at=at))
        self.assertEqual(at, (2, 0))


class TestNumbers(Puts):
    def test_blocks_without_a_record_count(self):
        world, store = founded([2, 2])
        world.cut_after(2, 5)
        error_of(PowerCut, store.put, "a", "123456789")
        self.assertEqual(world.disks, [[write_block(1, "12345678"), "<0000-" + "-" * 11], [write_block(1, "12345678")]])
        self.right(store, "a", "x")
        self.assertEqual(store.list_numbers(), [2])

    def test_records_without_a_block_count(self):
        world, store = founded([2, 2])
        store.put("a", "x")
        store.put("b", "y")
        store.erase("b")
        world.lose(0)
        world.lose(1)
        store.erase("a")
        self.right(store, "c", "z")
        self.assertEqual(store.list_numbers(), [3])

    def test_numbers_that_come_again(self):
        world, store = founded([2, 2])
        store.put("a", "x")
        store.put("b", "y")
        store.erase("b")
        store.pack()
        # The block of the erased piece is still there.
        self.right(store, "c", "z")
        self.assertEqual(store.list_numbers(), [1, 3])
        store.erase("c")
        store.pack()
        store.mend()
        self.right(store, "c", "z")
        self.assertEqual(store.list_numbers(), [1, 2])

    def test_numbers_follow_each_other(self):
        world, store = founded([9, 9, 9])
        store.put("a", "x" * 24)
        store.erase("a")
        self.right(store, "b", "x" * 24)
        self.assertEqual(store.list_numbers(), [4, 5, 6])


class TestWrites(Puts):
    def test_the_order(self):
        world, store = founded([2, 2, 2])
        store.put("a", "12345678x", at=(2, 0))
        self.assertEqual(world.noted, [
            ("cell", 0, 0, write_block(1, "12345678")), ("cell", 2, 0, write_block(1, "12345678")),
            ("cell", 0, 1, write_block(2, "x")), ("cell", 2, 1, write_block(2, "x")),
            ("log", 1, "put a=1,2 / 1:0,2 2:0,2;"),
        ])
        world.noted.clear()
        store.put("b", "")
        self.assertEqual(world.noted, [("log", 2, "put b= /;")])

    def test_the_slots(self):
        world, store = founded([5, 5])
        store.put("a", "one")
        store.put("b", "two")
        store.put("c", "three")
        store.erase("a")
        world.lose_cells(1, [0])
        world.noted.clear()
        # Slot 0 of seat 0 has a block that nobody needs, slot 0 of seat 1 is blank.
        store.put("d", "12345678x")
        self.assertEqual(world.noted[:-1], [
            ("cell", 0, 0, BLANK), ("cell", 0, 0, write_block(4, "12345678")), ("cell", 1, 0, write_block(4, "12345678")),
            ("cell", 0, 3, write_block(5, "x")), ("cell", 1, 3, write_block(5, "x")),
        ])

    def test_the_old_text_stays_until_the_record(self):
        world, store = founded([2, 2])
        store.put("a", "old")
        world.noted.clear()
        store.put("a", "new")
        self.assertEqual([write[2] for write in world.noted[:2]], [1, 1])
        self.assertEqual(world.disks[0], [write_block(1, "old"), write_block(2, "new")])
        world.noted.clear()
        # Now the old block is not needed, and its slot is the lowest one.
        store.put("a", "newer")
        self.assertEqual(world.noted[:2], [("cell", 0, 0, BLANK), ("cell", 0, 0, write_block(3, "newer"))])

    def test_the_place_of_the_record(self):
        world, store = founded([2, 2])
        world.cut_after(0, 6)
        error_of(PowerCut, store.put, "a", "")
        self.assertEqual(world.log, ["picture 2,2 /;", "put a="])
        self.right(store, "b", "")
        self.assertEqual(world.log, ["picture 2,2 /;", "put b= /;"])

    def test_drawn_puts(self):
        dice = random.Random(83)
        done = 0
        for _ in range(250):
            world = drawn_world(dice, seats=4)
            for _ in range(4):
                call = drawn_call(dice, world)
                while call[0] != "put":
                    call = drawn_call(dice, world)
                before = world.writes
                self.assertIsNone(fault(world, call), call)
                done += world.writes > before
        self.assertGreater(done, 200)


class TestBounds(unittest.TestCase):
    def test_time(self):
        dice = random.Random(95)
        for caps in ([GREAT] * 6, [3] * 6, [GREAT - at for at in range(6)]):
            world, store = founded(caps)
            calls = []

            def timed(name, *args, **named):
                calls.append((name, seconds(getattr(store, name), *args, **named)))

            timed("put", "a", "12345678" * 40, at=(5, 4, 3, 2, 1, 0))
            timed("put", "a", "abcdefgh" * 40)
            store.mend()
            timed("put", "a", "ABCDEFGH" * 40, at=(0, 1, 2, 3, 4, 5))
            timed("drop_copy", store.list_numbers()[-1], store.list_wardens()[-1][0])
            timed("add_copy", store.list_numbers()[-1], next(seat for seat in range(6) if seat not in store.list_copies()[-1]))
            timed("set_cap", 0, 2 if caps[0] == 3 else 1)
            timed("set_cap", 0, caps[0])
            self.assertEqual(store.read("a"), "ABCDEFGH" * 40)
            for seat in range(6):
                world.lose(seat)
                for name in ("list_sends", "list_lacking", "list_copies", "list_names", "as_pool", "is_at_rest"):
                    timed(name)
                if store.list_sends():
                    number, _, to = dice.choice(store.list_sends())
                    timed("send", number, to)
                timed("mend")
                timed("read", "a")
            timed("erase", "a")
            for number in range(40):
                timed("put", f"n{number}", "x", at=tuple(range(6)))
            timed("pack")
            self.assertIsInstance(world, Watched)
            for name, time in calls:
                self.assertLess(time, 1, name)
