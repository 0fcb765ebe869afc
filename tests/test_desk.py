"""Points 93 and 94."""

import random
import unittest

from pairwarden.desk import Desk, replay
from pairwarden.errors import InvalidPool, PowerCut
from pairwarden.store import Store
from pairwarden.world import World
from samples import error_of, seconds
from storing import state

GREAT = 10 ** 60 - 1


def whole(desk):
    return [desk.world.disks, desk.world.log, desk.journal]


def drawn_line(dice, desk):
    """A line of a desk; many are commands that can be run, some are refused, some are none."""
    seats = desk.world.seats
    number, seat = dice.choice(desk.store.list_numbers() + [0, 1, 2]), dice.randrange(seats + 1)
    name = dice.choice(("a", "b2", "c"))
    at = dice.choice(("", "", "@0,1", "@1,0,2", "@0", "@0,0", "@7"))
    text = "".join(dice.choices("ab -:@<>", k=dice.randrange(20)))
    sends = desk.store.list_sends()
    send = "send {0} {2}".format(*dice.choice(sends)) if sends else "sends"
    return dice.choice((
        f"put {name}{at}:{text}", f"put {name}{at}:{text}", f"put {name}:{text}", f"read {name}", f"erase {name}", send, send,
        f"send {number} {seat}", f"add {number} {seat}", f"drop {number} {seat}", f"cap {seat} {dice.randrange(5)}",
        f"lose {seat}", "names", "sends", "mend", "mend", "pack", dice.choice(("put", "no line", "lose -1", "read A", "mend\n", "")),
    ))


class TestDesk(unittest.TestCase):
    def test_examples(self):
        desk = Desk([1, 1, 1])
        desk.do("put a:hello")
        self.assertEqual(desk.world.log, ["picture 1,1,1 /;", "put a=1 / 1:0,1;"])
        self.assertEqual(Desk([1, 1, 1]).do("read b"), "refused Missing")

    def test_a_new_desk(self):
        for caps in ([1, 1, 1], (0,), [GREAT, 3]):
            desk = Desk(caps)
            self.assertIsInstance(desk.world, World)
            self.assertIsInstance(desk.store, Store)
            self.assertIs(desk.store.world, desk.world)
            text = "picture " + ",".join(map(str, caps)) + " /;"
            self.assertEqual(state(desk.world), [len(caps), [[]] * len(caps), [text], 1, None, 0])
            self.assertEqual(desk.journal, ())
        for caps in ([], (), [-1], [1, -1], (1, 2, -GREAT)):
            self.assertIsNone(error_of(InvalidPool, Desk, caps).piece)
            self.assertIsNone(error_of(InvalidPool, replay, caps, []).piece)

    def test_caps_are_not_kept(self):
        caps = [1, 1]
        desk = Desk(caps)
        caps.append(9)
        self.assertEqual([desk.do("put a:x"), desk.store.list_caps(), desk.world.seats], ["done", [1, 1], 2])

    def test_answers(self):
        desk = Desk([2, 2, 2])
        told = []
        for line, answer in (
            ("names", "names"), ("sends", "sends"), ("put b:hello", "done"), ("put a@2,0:", "done"), ("names", "names a b"),
            ("read b", "text hello"), ("read a", "text "), ("add 1 2", "done"), ("drop 1 0", "done"), ("sends", "sends"),
            ("put c: :x", "done"), ("read c", "text  :x"), ("lose 2", "done"), ("sends", "sends 1:1>2"), ("lose 0", "done"),
            ("sends", "sends 1:1>2 2:1>0"), ("send 2 0", "done"), ("sends", "sends 1:1>2"), ("mend", "done"), ("sends", "sends"),
            ("cap 0 5", "done"), ("erase a", "done"), ("pack", "done"), ("names", "names b c"), ("mend", "done"), ("mend", "done"),
        ):
            self.assertEqual(desk.do(line), answer, line)
            if answer == "done":
                told.append(line)
            self.assertEqual(desk.journal, tuple(told))
        self.assertEqual(desk.store.list_caps(), [5, 2, 2])
        self.assertIsInstance(desk.journal, tuple)

    def test_refused(self):
        desk = Desk([1, 1, 1])
        self.assertEqual([desk.do("put a:12345678x"), desk.do("put b:y")], ["done", "done"])
        journal = desk.journal
        for line, name in (
            ("", "InvalidLine"), ("hello", "InvalidLine"), ("put a", "InvalidLine"), ("names\n", "InvalidLine"), ("lose -1", "InvalidLine"),
            ("put A:x", "InvalidLine"), ("read A", "InvalidLine"), ("put a@:x", "InvalidLine"),
            ("put a@3:x", "InvalidSeats"), ("put a@0,0:x", "InvalidSeats"), ("lose 3", "InvalidSeats"), (f"lose {GREAT}", "InvalidSeats"),
            ("read c", "Missing"), ("erase c", "Missing"), ("send 1 0", "InvalidCopy"), ("send 9 9", "InvalidCopy"),
            ("add 1 0", "InvalidCopy"), ("add 1 9", "InvalidCopy"), ("drop 9 0", "InvalidCopy"), ("drop 1 2", "InvalidCopy"),
            ("drop 1 0", "CannotHold"), ("put c:x", "CannotHold"), ("put b@0:x", "CannotHold"), ("cap 0 0", "CannotHold"),
            ("cap 3 0", "InvalidDeed"), ("cap 9 9", "InvalidDeed"),
        ):
            before = state(desk.world)
            self.assertEqual(desk.do(line), f"refused {name}", line)
            self.assertEqual([state(desk.world), desk.journal], [before, journal])
        self.assertEqual(desk.do("lose 0"), "done")
        for line, answer in (
            ("put b:x", "refused Unfinished"), ("add 3 0", "refused Unfinished"), ("cap 0 5", "refused Unfinished"),
            ("drop 1 1", "refused Unfinished"), ("lose 1", "done"), ("read a", "refused Lost"), ("read b", "text y"),
        ):
            self.assertEqual(desk.do(line), answer, line)
        self.assertEqual(desk.journal, journal + ("lose 0", "lose 1"))

    def test_power_cuts(self):
        for line in ("put b:12345678x", "erase a", "pack", "cap 0 7", "add 1 2", "drop 1 0"):
            desk = Desk([2, 2, 2])
            desk.do("put a@0,1:old")
            if line == "drop 1 0":
                desk.do("add 1 2")
            journal = desk.journal
            desk.world.cut_after(0, 3)
            error_of(PowerCut, desk.do, line)
            self.assertEqual([desk.journal, desk.world.fuse], [journal, None])
            self.assertEqual([desk.do("read a"), desk.do("names"), desk.journal], ["text old", "names a", journal])
            self.assertEqual(desk.do(line), "done")
            self.assertEqual(desk.journal, journal + (line,))
        desk = Desk([2, 2, 2])
        desk.do("put a:old")
        desk.do("lose 0")
        for line in ("send 1 0", "mend"):
            desk.world.cut_after(0, 3)
            error_of(PowerCut, desk.do, line)
            self.assertEqual(desk.journal, ("put a:old", "lose 0"))
        self.assertEqual([desk.do("mend"), desk.do("sends"), desk.do("read a")], ["done", "sends", "text old"])
        # What only reads is not cut.
        desk.world.cut_after(0, 3)
        self.assertEqual([desk.do("names"), desk.do("lose 2"), desk.do("put c@9:x")], ["names a", "done", "refused InvalidSeats"])
        error_of(PowerCut, desk.do, "erase a")

    def test_drawn_lines(self):
        dice = random.Random(93)
        starts = {}
        for _ in range(400):
            desk = Desk([dice.randint(0, 3) for _ in range(dice.randint(1, 4))])
            for _ in range(12):
                line, before, journal = drawn_line(dice, desk), state(desk.world), desk.journal
                answer = desk.do(line)
                word = answer.split(" ")[0]
                starts[word] = starts.get(word, 0) + 1
                if word == "done":
                    self.assertEqual(desk.journal, journal + (line,))
                else:
                    self.assertIn(word, ("refused", "names", "sends", "text"))
                    self.assertEqual([state(desk.world), desk.journal], [before, journal])
        self.assertGreater(min(starts[word] for word in ("done", "refused", "names", "sends", "text")), 15)


class TestReplay(unittest.TestCase):
    def test_ordinary(self):
        lines = ["put a:hello", "nonsense", "put b@0,1:x", "lose 0", "read a", "put c:y", "mend"]
        desk = replay([2, 2, 2], lines)
        self.assertIsInstance(desk, Desk)
        self.assertEqual(desk.journal, ("put a:hello", "put b@0,1:x", "lose 0", "mend"))
        self.assertEqual(desk.do("read a"), "text hello")
        self.assertEqual(len(lines), 7)
        self.assertEqual(whole(replay((2, 2, 2), tuple(lines)))[0], desk.world.disks)
        self.assertEqual(whole(replay([1], [])), whole(Desk([1])))
        self.assertIsNot(replay([1], []), replay([1], []))

    def test_the_journal_of_a_desk(self):
        dice = random.Random(94)
        for _ in range(150):
            caps = [dice.randint(0, 3) for _ in range(dice.randint(1, 4))]
            desk = Desk(caps)
            for _ in range(dice.randrange(20)):
                desk.do(drawn_line(dice, desk))
            before = whole(desk)
            other = replay(caps, desk.journal)
            self.assertEqual(whole(other), before)
            self.assertEqual(whole(replay(caps, list(desk.journal))), before)
            self.assertIsNot(other.world, desk.world)
            other.do("put a:changed")
            other.do("lose 0")
            self.assertEqual(whole(desk), before)

    def test_time(self):
        desk = Desk([GREAT] * 6)
        for line in ("put a@0,1,2,3,4,5:" + "12345678" * 40, "put a:" + "x" * 320, "lose 0", "mend", "pack", "read a", "sends"):
            self.assertLess(seconds(desk.do, line), 1)
        self.assertLess(seconds(replay, [GREAT] * 6, desk.journal), 5)
