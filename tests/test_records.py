"""Points 73 to 75."""

import itertools
import random
import unittest

from pairwarden.errors import PowerCut
from pairwarden.records import log_end, read_log, read_record, record_text
from pairwarden.world import World
from samples import error_of, seconds

GREAT = 10 ** 60 - 1
# Records of each kind, with their texts.
PAIRS = [
    (("picture", (2, 2, 1), (("a", ()), ("b", (3, 4))), ((3, 0, 1), (4, 0, 2))), "picture 2,2,1 a= b=3,4 / 3:0,1 4:0,2;"),
    (("picture", (0,), (), ()), "picture 0 /;"),
    (("picture", (1, 1), (), ()), "picture 1,1 /;"),
    (("picture", (GREAT, 0), (), ()), f"picture {GREAT},0 /;"),
    (("picture", (1, 1), (("0", (1,)), ("00", ()), ("a9", (2, 10))), ((1, 0, 1),)), "picture 1,1 0=1 00= a9=2,10 / 1:0,1;"),
    (("picture", (1, 1), (("picture", ()),), ()), "picture 1,1 picture= /;"),
    (("put", "b", (7,), ()), "put b=7 /;"),
    (("put", "b", (7,), ((7, 0, 2),)), "put b=7 / 7:0,2;"),
    (("put", "b", (), ()), "put b= /;"),
    (("put", "abcdefghijkl", (1, 2, 999999), ((1, 0, 1), (2, 3, 5), (999999, 10, 11))),
     "put abcdefghijkl=1,2,999999 / 1:0,1 2:3,5 999999:10,11;"),
    (("put", "a", (), ((1, 0, 1),)), "put a= / 1:0,1;"),
    (("erase", "b"), "erase b;"),
    (("erase", "012345678901"), "erase 012345678901;"),
    (("deal", ()), "deal /;"),
    (("deal", ((5, 0, 1), (17, 2, 4))), "deal / 5:0,1 17:2,4;"),
    (("cap", 0, 0, ()), "cap 0 0 /;"),
    (("cap", 3, GREAT, ((2, 0, 3), (10, 1, 3))), f"cap 3 {GREAT} / 2:0,3 10:1,3;"),
]
WRONG = [
    "", ";", " ;", "/;", "picture;", "picture ;", "picture /;", "picture  /;", "put;", "put /;", "put b;", "put b /;",
    "erase;", "erase ;", "deal;", "cap;", "cap 0;", "cap 0 0;", "cap 0 /;", "cap / 0 0;", "cap 0 0 0 /;", "cap 0/;",
    "erase b", "deal /", "put b=7 /", "picture 1 /", "cap 0 0 /",
    "erase b;;", "deal /;;", "picture 1 /; ", "picture 1 /;x", ";erase b;", "erase b; erase c;", "erase; b;",
    " erase b;", "erase b ;", "erase  b;", "deal / ;", "deal  /;", "deal  / 1:0,1;", "deal / 1:0,1 ;", "deal / 1:0,1  2:0,1;",
    "put b= 7 /;", "put b =7 /;", "put b=7/;", "put b=7  /;", "put b=7;", "put b=7 / / ;", "put b=7 / /;", "picture 1,1 / /;",
    "picture 1, 1 /;", "picture 1,1/;", "picture 1,1 a= 3 /;", "picture 1,1 / a=;", "picture a= 1,1 /;",
    "Erase b;", "ERASE b;", "remove b;", "erase;b", "pictures 1 /;", "putb=7 /;", "deal/;", "erase b /;", "erase b=;",
    # Leading zeros, signs, and numbers that are none.
    "picture 01 /;", "picture 00 /;", "picture 1,02 /;", "picture -1 /;", "picture +1 /;", "picture 1.0 /;", "picture , /;",
    "picture 1, /;", "picture ,1 /;", "picture 1,,1 /;", "picture x /;", "put b=07 /;", "put b=7,08 /;", "put b=7, /;",
    "put b=,7 /;", "put b=, /;", "put b=-7 /;", "put b=x /;", "deal / 01:0,1;", "deal / 1:00,1;", "deal / 1:0,01;",
    "deal / -1:0,1;", "deal / 1:-1,1;", "deal / :0,1;", "deal / 1:,1;", "deal / 1:0,;", "deal / 1:0;", "deal / 1:;",
    "deal / 1;", "deal / 1:0,1,2;", "deal / 1:0:1;", "deal / 1,0,1;", "cap 00 1 /;", "cap 0 01 /;", "cap -1 1 /;",
    "cap 0 -1 /;", "cap x 1 /;", "cap 0 x /;", "cap 0,1 1 /;", "cap  1 /;", "cap 0  /;",
    # Numbers of pieces: out of order, twice, or 0.
    "put b=0 /;", "put b=0,1 /;", "put b=2,1 /;", "put b=1,1 /;", "put b=1,3,2 /;", "picture 1 a=0 /;", "picture 1 a=4,3 /;",
    "deal / 0:0,1;", "deal / 2:0,1 1:0,1;", "deal / 1:0,1 1:0,1;", "deal / 1:0,1 1:0,2;", "put b=1 / 0:0,1;",
    "put b=1,2 / 2:0,1 1:0,1;", "cap 0 1 / 2:0,1 1:0,1;", "cap 0 1 / 0:0,1;", "picture 1,1 a=1 / 0:0,1;",
    "picture 1,1 a=1,2 / 2:0,1 1:0,1;",
    # Pairs of wardens that are none.
    "deal / 1:0,0;", "deal / 1:1,0;", "deal / 1:2,1;", "put b=1 / 1:1,1;", "cap 0 0 / 1:1,0;", "picture 1,1 a=1 / 1:1,0;",
    # Names: too long, empty, with other characters, out of order, twice.
    "put abcdefghijklm=7 /;", "erase abcdefghijklm;", "picture 1 abcdefghijklm= /;", "put =7 /;", "picture 1 = /;",
    "put B=7 /;", "put a-b=7 /;", "put a_b=7 /;", "put a.b=7 /;", "erase B;", "erase a-b;", "erase /;", "put a=b=7 /;",
    "put a==7 /;", "picture 1 b= a= /;", "picture 1 a= a= /;", "picture 1 a= b= b= /;", "picture 1 a= 9= /;",
    "picture 1 ab= aa= /;", "picture 1 ab= a= /;", "picture 1 a=1 a=2 /;",
]


def drawn_record(dice):
    """A record of any kind."""
    def wardens():
        numbers = sorted(dice.sample(range(1, 30), dice.randint(0, 4)))
        return tuple((number, *sorted(dice.sample(range(7), 2))) for number in numbers)

    def numbers():
        return tuple(sorted(dice.sample(range(1, 1200), dice.randint(0, 4))))

    def name():
        return "".join(dice.choices("abz019", k=dice.choice((1, 1, 2, 12))))

    names = tuple((word, numbers()) for word in sorted({name() for _ in range(dice.randint(0, 3))}))
    caps = tuple(dice.choice((0, 1, 9, 10, GREAT)) for _ in range(dice.randint(1, 6)))
    return dice.choice((
        ("picture", caps, names, wardens()), ("put", name(), numbers(), wardens()), ("erase", name()),
        ("deal", wardens()), ("cap", dice.randrange(12), dice.choice((0, 7, 10, GREAT)), wardens()),
    ))


class TestTexts(unittest.TestCase):
    def test_example(self):
        self.assertEqual(record_text(("put", "b", (7,), ((7, 0, 2),))), "put b=7 / 7:0,2;")

    def test_there_and_back(self):
        for record, text in PAIRS:
            self.assertEqual(record_text(record), text)
            self.assertEqual(read_record(text), record)
            self.assertIsInstance(read_record(text), tuple)

    def test_wrong_texts(self):
        for text in WRONG:
            self.assertIsNone(read_record(text), text)

    def test_newlines(self):
        for _, text in PAIRS:
            for other in (text + "\n", "\n" + text, text.replace(" ", "\n"), text[:-1] + "\n;"):
                self.assertIsNone(read_record(other))

    def test_drawn_records(self):
        dice = random.Random(74)
        for _ in range(2000):
            record = drawn_record(dice)
            self.assertEqual(read_record(record_text(record)), record)
            self.assertEqual(record_text(record).count(";"), 1)

    def test_cut_at_every_place(self):
        dice = random.Random(741)
        for text in [text for _, text in PAIRS] + [record_text(drawn_record(dice)) for _ in range(200)]:
            for kept in range(len(text)):
                self.assertIsNone(read_record(text[:kept]))
                for old in ("", "-" * 50, "erase b", text[:-1], "picture 1,1 /"):
                    self.assertIsNone(read_record(text[:kept] + old[kept:]))

    def test_one_changed_character(self):
        # Whatever is read has exactly the text that was read.
        for _, text in PAIRS:
            for at, char in itertools.product(range(len(text) + 1), " ;:,=/019az-Z"):
                for other in (text[:at] + char + text[at + 1:], text[:at] + char + text[at:], text[:at] + text[at + 1:]):
                    record = read_record(other)
                    if record is not None:
                        self.assertEqual(record_text(record), other)

    def test_all_characters(self):
        chars = [chr(code) for code in range(32, 127)]
        for char in chars:
            name = char.isdigit() or char.islower()
            self.assertEqual(read_record(f"erase {char};"), ("erase", char) if name else None)
            self.assertIsNone(read_record(char * 20))


class TestLogs(unittest.TestCase):
    def check(self, log, records, end):
        kept = list(log)
        self.assertEqual(read_log(log), records)
        self.assertEqual(log_end(log), end)
        self.assertEqual(log, kept)

    def test_example(self):
        self.check(["picture 1,1 /;", "erase a;", "put b="], [("picture", (1, 1), (), ()), ("erase", "a")], 2)

    def test_without_a_picture(self):
        for log in ([], [""], ["", ""], ["erase a;"], ["put a= /;", "deal /;"], ["picture 1,1 /"], ["picture 1 b= a= /;"]):
            self.check(log, [], 0)

    def test_the_last_picture_counts(self):
        first, second = ("picture", (1,), (), ()), ("picture", (2,), (), ())
        erase, deal = ("erase", "a"), ("deal", ())
        self.check(["picture 1 /;"], [first], 1)
        self.check(["picture 1 /;", "picture 2 /;"], [second], 2)
        self.check(["picture 2 /;", "picture 1 /;"], [first], 2)
        self.check(["picture 1 /;", "erase a;", "picture 2 /;", "deal /;"], [second, deal], 4)
        self.check(["picture 1 /;", "erase a;", "picture 2 /", "deal /;"], [first, erase], 2)
        # Wrong strings before the last picture do not count, and the first one behind it ends the records.
        self.check(["", "x", "picture 1 /;", "erase a;", "deal /;"], [first, erase, deal], 5)
        self.check(["picture 1 /;", "x", "erase a;"], [first], 1)
        self.check(["picture 1 /;", "", "erase a;"], [first], 1)
        self.check(["picture 1 /;", "x", "picture 2 /;", "erase a;", "", "deal /;"], [second, erase], 4)
        self.check(["erase a;", "picture 1 /;", "erase a;", "erase a"], [first, erase], 3)
        self.check(["picture 1 /;", "picture 2 /;;", "erase a;"], [first], 1)

    def test_drawn_logs(self):
        dice = random.Random(75)
        for _ in range(1000):
            records = [drawn_record(dice) for _ in range(dice.randint(0, 6))]
            log = [record_text(record) for record in records]
            for _ in range(dice.choice((0, 0, 1, 2))):
                log.insert(dice.randint(0, len(log)), dice.choice(("", "erase a", "picture 1,1 /", "x;")))
            starts = [at for at, text in enumerate(log) if text.startswith("picture") and text.endswith(";")]
            wanted, end = [], 0
            if starts:
                rows = [read_record(text) for text in log[starts[-1]:]] + [None]
                wanted = rows[:rows.index(None)]
                end = starts[-1] + len(wanted)
            self.check(log, wanted, end)

    def test_torn_records(self):
        for record, text in PAIRS:
            if record[0] == "picture":
                continue
            for old in (None, "", "put a=1", "-" * 90):
                for kept in range(len(text) + 2):
                    world = World(1)
                    world.write_log(0, "picture 1,1 /;")
                    if old is not None:
                        world.write_log(1, old)
                    world.cut_after(0, kept)
                    error_of(PowerCut, world.write_log, 1, text)
                    whole = kept >= len(text)
                    self.check(world.log, [("picture", (1, 1), (), ())] + [record] * whole, 1 + whole)

    def test_new_lists(self):
        log = ["picture 1,1 /;", "erase a;"]
        read_log(log).clear()
        self.assertEqual([len(read_log(log)), log], [2, ["picture 1,1 /;", "erase a;"]])

    def test_time(self):
        numbers = tuple(range(999900, 999940))
        wardens = tuple((number, 4, 5) for number in numbers)
        picture = record_text(("picture", (GREAT,) * 6, tuple((f"name{number}", (number,)) for number in numbers), wardens))
        log = [picture] + [record_text(("put", "a", numbers, wardens))] * 500
        self.assertLess(seconds(read_log, log), 1)
        self.assertLess(seconds(log_end, log), 1)
        self.assertLess(seconds(log_end, [picture] * 500), 1)
