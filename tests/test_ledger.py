"""Point 76."""

import random
import unittest

from pairwarden.errors import NoStore
from pairwarden.ledger import Ledger
from pairwarden.records import read_record
from samples import error_of

PICTURE = ("picture", (2, 2, 1), (("a", ()), ("b", (3, 4))), ((3, 0, 1), (4, 0, 2)))


def state(ledger):
    return [ledger.caps, ledger.names, ledger.wardens, ledger.top]


def drawn_records(dice):
    """Records as a store writes them: names and numbers exist, and all numbers have wardens."""
    names, top, records = {}, dice.randint(0, 5), [("picture", (1, 2, 3), (), ())]

    def pair():
        return tuple(sorted(dice.sample(range(3), 2)))

    if dice.randrange(2):
        names = {"a": (top + 1, top + 4), "b": (), "c": (top + 2,)}
        numbers = sorted(number for row in names.values() for number in row)
        top += 4
        records = [("picture", (1, 2, 3), tuple(names.items()), tuple((number, *pair()) for number in numbers))]
    for _ in range(dice.randint(0, 8)):
        stored = sorted(number for row in names.values() for number in row)
        some = [number for number in stored if dice.randrange(3) == 0]
        kind = dice.choice(("put", "put", "erase", "deal", "cap"))
        if kind == "put":
            name, first = dice.choice("abcd"), top + dice.randint(1, 3)
            new = tuple(range(first, first + dice.randint(0, 3)))
            top = max([top, *new])
            some = [number for number in some if number not in names.get(name, ())]
            names[name] = new
            records.append(("put", name, new, tuple((number, *pair()) for number in some + list(new))))
        elif kind == "erase" and names:
            name = dice.choice(sorted(names))
            del names[name]
            records.append(("erase", name))
        elif kind == "deal":
            records.append(("deal", tuple((number, *pair()) for number in some)))
        elif kind == "cap":
            records.append(("cap", dice.randrange(3), dice.randrange(9), tuple((number, *pair()) for number in some)))
    return records


def said(records):
    """What the records say, taken one by one."""
    caps, names, wardens, top = [], {}, {}, 0
    for record in records:
        kind, rest = record[0], record[1:]
        entries = rest[-1] if kind != "erase" else ()
        puts = {"picture": rest[1] if kind == "picture" else (), "put": (rest[:2],)}.get(kind, ())
        if kind == "picture":
            caps = list(rest[0])
        if kind == "cap":
            caps[rest[0]] = rest[1]
        for name in [name for name, _ in puts] + ([rest[0]] if kind == "erase" else []):
            wardens = {number: pair for number, pair in wardens.items() if number not in names.get(name, ())}
            names = {other: row for other, row in names.items() if other != name}
        names = {**names, **dict(puts)}
        wardens = {**wardens, **{number: (first, second) for number, first, second in entries}}
        top = max([top, *[entry[0] for entry in entries], *[number for _, row in puts for number in row]])
    return [caps, names, wardens, top]


class TestLedger(unittest.TestCase):
    def check(self, records, wanted):
        kept = list(records)
        ledger = Ledger(records)
        self.assertEqual(state(ledger), wanted)
        self.assertIsInstance(ledger.caps, list)
        self.assertEqual(records, kept)
        other = Ledger([ledger.to_picture()])
        self.assertEqual(state(other)[:3], wanted[:3])
        self.assertEqual(Ledger([other.to_picture()]).to_picture(), ledger.to_picture())

    def test_a_picture(self):
        self.check([PICTURE], [[2, 2, 1], {"a": (), "b": (3, 4)}, {3: (0, 1), 4: (0, 2)}, 4])
        self.check([("picture", (0,), (), ())], [[0], {}, {}, 0])
        self.assertEqual(Ledger([PICTURE]).to_picture(), PICTURE)

    def test_each_kind(self):
        b = {"a": (), "b": (3, 4)}
        put = ("put", "c", (7, 8), ((4, 1, 2), (7, 0, 1), (8, 0, 2)))
        wardens = {3: (0, 1), 4: (1, 2), 7: (0, 1), 8: (0, 2)}
        self.check([PICTURE, put], [[2, 2, 1], {**b, "c": (7, 8)}, wardens, 8])
        self.check([PICTURE, ("erase", "b")], [[2, 2, 1], {"a": ()}, {}, 4])
        self.check([PICTURE, ("erase", "a")], [[2, 2, 1], {"b": (3, 4)}, {3: (0, 1), 4: (0, 2)}, 4])
        self.check([PICTURE, ("deal", ((4, 1, 2),))], [[2, 2, 1], b, {3: (0, 1), 4: (1, 2)}, 4])
        self.check([PICTURE, ("deal", ())], [[2, 2, 1], b, {3: (0, 1), 4: (0, 2)}, 4])
        self.check([PICTURE, ("cap", 2, 9, ())], [[2, 2, 9], b, {3: (0, 1), 4: (0, 2)}, 4])
        self.check([PICTURE, ("cap", 0, 0, ((3, 1, 2),))], [[0, 2, 1], b, {3: (1, 2), 4: (0, 2)}, 4])

    def test_a_name_put_again(self):
        again = ("put", "b", (9,), ((9, 1, 2),))
        self.check([PICTURE, again], [[2, 2, 1], {"a": (), "b": (9,)}, {9: (1, 2)}, 9])
        self.check([PICTURE, ("put", "b", (), ())], [[2, 2, 1], {"a": (), "b": ()}, {}, 4])
        self.check([PICTURE, again, ("put", "b", (10,), ((10, 0, 1),))], [[2, 2, 1], {"a": (), "b": (10,)}, {10: (0, 1)}, 10])
        # The old numbers go before the entries are set, so a number may come again.
        self.check(
            [PICTURE, ("put", "b", (3,), ((3, 1, 2),))], [[2, 2, 1], {"a": (), "b": (3,)}, {3: (1, 2)}, 4],
        )
        self.check(
            [PICTURE, ("erase", "b"), ("put", "a", (4,), ((4, 1, 2),))], [[2, 2, 1], {"a": (4,)}, {4: (1, 2)}, 4],
        )

    def test_top(self):
        self.assertEqual(Ledger([("picture", (1, 1), (("a", (12, 40)),), ((12, 0, 1), (40, 0, 1)))]).top, 40)
        records = [PICTURE, ("put", "c", (20,), ((20, 0, 1),)), ("erase", "c")]
        self.assertEqual(Ledger(records).top, 20)
        self.assertEqual(Ledger(records + [("put", "c", (5,), ((5, 0, 1),))]).top, 20)
        self.assertEqual(Ledger([Ledger(records).to_picture()]).top, 4)
        # Entries alone count, and so do numbers alone.
        self.assertEqual(Ledger([("picture", (1, 1), (("a", (2, 7)),), ((2, 0, 1),))]).top, 7)
        self.assertEqual(Ledger([("picture", (1, 1), (("a", (2,)),), ((2, 0, 1), (7, 0, 1)))]).top, 7)
        self.assertEqual(Ledger([PICTURE, ("put", "c", (6,), ((6, 0, 1),))]).top, 6)
        self.assertEqual(Ledger([("picture", (1, 1), (("a", (7,)),), ((7, 0, 1),)), ("erase", "a")]).top, 7)

    def test_drawn_records(self):
        dice = random.Random(76)
        for _ in range(800):
            records = drawn_records(dice)
            self.check(records, said(records))

    def test_no_store(self):
        for records in (
            [], [("erase", "a")], [("put", "a", (), ())], [("deal", ()), PICTURE], [("cap", 0, 1, ())],
            [("erase", "a"), PICTURE],
        ):
            error_of(NoStore, Ledger, records)

    def test_the_picture_of_a_ledger(self):
        records = [PICTURE, ("put", "0", (11,), ((11, 1, 2),)), ("put", "a", (2 + 10, 13), ((12, 0, 1), (13, 0, 2)))]
        picture = ("picture", (2, 2, 1), (("0", (11,)), ("a", (12, 13)), ("b", (3, 4))))
        wardens = ((3, 0, 1), (4, 0, 2), (11, 1, 2), (12, 0, 1), (13, 0, 2))
        self.assertEqual(Ledger(records).to_picture(), picture + (wardens,))
        self.assertEqual(Ledger([read_record("picture 1 /;")]).to_picture(), ("picture", (1,), (), ()))

    def test_the_wardens_of_a_picture_ascend(self):
        records = [PICTURE, ("put", "c", (2,), ((2, 1, 2),))]
        self.assertEqual(Ledger(records).to_picture()[3], ((2, 1, 2), (3, 0, 1), (4, 0, 2)))

    def test_two_ledgers_do_not_share(self):
        first, second = Ledger([PICTURE]), Ledger([PICTURE])
        first.caps[0] = 9
        first.names.clear()
        first.wardens.clear()
        self.assertEqual(state(second), [[2, 2, 1], {"a": (), "b": (3, 4)}, {3: (0, 1), 4: (0, 2)}, 4])
        self.assertEqual(PICTURE[1], (2, 2, 1))
