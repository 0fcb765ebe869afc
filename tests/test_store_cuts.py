"""Point 91: what power cuts and losses leave of a store."""

import random
import unittest

from pairwarden.errors import CannotHold, Lost, PoolError, PowerCut
from pairwarden.foe import lot_row
from pairwarden.papers import is_dealing
from pairwarden.pool import Pool
from pairwarden.records import read_log
from pairwarden.rounds import after_round
from pairwarden.store import Store
from samples import error_of, random_sends
from storing import View, drawn_call, drawn_text, fault, founded, run, wanted, watched


def is_record(write):
    """Whether a write of a method is the one of its record."""
    return write[0] == "log" and write[-1] != ""


def after(texts, call):
    """The texts after a whole call."""
    if call[0] == "put":
        return {**texts, call[1]: call[2]}
    return {name: text for name, text in texts.items() if call != ("erase", name)}


class Cuts(unittest.TestCase):
    def check_rest(self, world):
        """At rest, the wardens are a full dealing."""
        store = Store(world)
        wardens = store.list_wardens()
        self.assertEqual(store.is_at_rest(), not store.list_lacking())
        if store.is_at_rest():
            self.assertNotIn(None, wardens)
            self.assertTrue(is_dealing(store.as_pool(), wardens))

    def check_texts(self, world, texts, lost=False):
        """The names are these, and no name has another text."""
        store = Store(world)
        self.assertEqual(store.list_names(), sorted(texts))
        for name, text in texts.items():
            try:
                self.assertEqual(store.read(name), text)
            except Lost:
                self.assertTrue(lost)

    def cut(self, start, call, write, kept):
        """The world after a call that is cut."""
        world = start.twin()
        store = Store(world)
        world.cut_after(write, kept)
        error_of(PowerCut, run, store, call)
        self.assertIs(store.writing, False)
        self.assertEqual([world.fuse, world.writes], [None, start.writes + write + 1])
        return world

    def cut_everywhere(self, start, call, texts, kinds):
        """Cut a call at every write, and tell how many characters of how many writes there are."""
        whole = watched(start)
        run(Store(whole), call)
        records = [at for at, write in enumerate(whole.noted) if is_record(write)]
        at_rest = Store(start).is_at_rest()
        for at, write in enumerate(whole.noted):
            for kept in range(len(write[-1]) + 2):
                world = self.cut(start, call, at, kept)
                done = bool(records) and (at > records[0] or (at == records[0] and kept >= len(write[-1])))
                self.check_texts(world, after(texts, call) if done else texts)
                self.check_rest(world)
                if call[0] not in ("send", "mend", "add_copy"):
                    self.assertTrue(Store(world).is_at_rest() or not at_rest)
                if kept in (0, 5, len(write[-1])):
                    # The store may be used again, and whatever is called now does as the points say.
                    self.assertIsNone(fault(watched(world), call))
                    self.assertIsNone(fault(watched(world), ("mend",)))
                kinds[call[0]] = kinds.get(call[0], 0) + 1


class TestCuts(Cuts):
    def test_each_call_cut_at_every_write(self):
        dice = random.Random(91)
        kinds = {}
        for _ in range(45):
            world, store = founded([dice.choice((1, 2, 3)) for _ in range(dice.randint(2, 4))])
            texts = {}
            for _ in range(9):
                if store.is_at_rest() and dice.randrange(3) == 0:
                    world.lose(dice.randrange(world.seats))
                call = drawn_call(dice, world)
                if wanted(world, call)[0] is None:
                    self.cut_everywhere(world, call, texts, kinds)
                    self.assertIsNone(fault(world, call))
                    texts = after(texts, call)
                self.check_texts(world, texts)
                self.check_rest(world)
        for kind in ("put", "erase", "send", "mend", "add_copy", "drop_copy", "set_cap", "pack"):
            self.assertGreater(kinds.get(kind, 0), 20, kinds)

    def test_put_cut_at_every_write(self):
        for at in ((), (2, 0, 1)):
            world, store = founded([2, 2, 2])
            store.put("a", "old text", at=(0, 1, 2))
            store.put("b", "another text")
            store.erase("b")
            texts, kinds = {"a": "old text"}, {}
            for call in (("put", "a", "a new text", at), ("put", "c", "", at), ("put", "c", "x", at), ("erase", "a")):
                self.cut_everywhere(world, call, texts, kinds)
            self.assertGreater(kinds["put"], 100)

    def test_a_record_that_is_written_whole(self):
        world, store = founded([1, 1])
        world.cut_after(2, 99)
        error_of(PowerCut, store.put, "a", "x")
        self.assertEqual([store.read("a"), world.log], ["x", ["picture 1,1 /;", "put a=1 / 1:0,1;"]])
        world.cut_after(0, len("erase a;") - 1)
        error_of(PowerCut, store.erase, "a")
        self.assertEqual([store.read("a"), world.log[2]], ["x", "erase a"])
        world.cut_after(0, len("erase a;"))
        error_of(PowerCut, store.erase, "a")
        self.assertEqual(store.list_names(), [])


class TestLosses(Cuts):
    def test_losses_at_one_seat(self):
        dice = random.Random(911)
        made = 0
        for _ in range(150):
            world, store = founded([dice.choice((0, 1, 2, 3)) for _ in range(dice.randint(2, 5))])
            texts = {}
            for _ in range(10):
                call = drawn_call(dice, world)
                if wanted(world, call)[0] is None:
                    run(store, call)
                    texts = after(texts, call)
                if store.is_at_rest():
                    seat = dice.randrange(world.seats)
                    dice.choice((lambda: world.lose(seat), lambda: world.lose_cells(seat, dice.sample(range(6), 3))))()
                senders = [sender for _, sender, _ in store.list_sends()]
                self.assertEqual(len(senders), len(store.list_lacking()))
                for sender in senders:
                    self.assertLessEqual(senders.count(sender), store.list_caps()[sender])
                made += len(senders)
                self.check_texts(world, texts)
                self.bring_to_rest(dice, world, store)
                self.check_texts(world, texts)
                self.check_rest(world)
        self.assertGreater(made, 200)

    def bring_to_rest(self, dice, world, store):
        """Make the sends in any order, with cuts anywhere, and repeated after a cut."""
        for _ in range(500):
            if store.is_at_rest():
                return
            number, _, seat = dice.choice(store.list_sends())
            senders = [sender for _, sender, _ in store.list_sends()]
            self.assertTrue(all(senders.count(sender) <= store.list_caps()[sender] for sender in senders))
            if dice.randrange(2):
                world.cut_after(dice.randrange(3), dice.randrange(19))
            try:
                store.mend() if dice.randrange(4) == 0 else store.send(number, seat)
            except PowerCut:
                pass
            world.fuse = None
        self.fail("not at rest")

    def test_losses_of_every_kind(self):
        dice = random.Random(912)
        lost = 0
        for _ in range(200):
            world, store = founded([dice.choice((1, 2, 3)) for _ in range(dice.randint(2, 4))])
            texts = {}
            for _ in range(12):
                for _ in range(dice.choice((0, 0, 1, 2))):
                    seat = dice.randrange(world.seats)
                    dice.choice((lambda: world.lose(seat), lambda: world.lose_cells(seat, dice.sample(range(5), 2))))()
                call = dice.choice((drawn_call(dice, world), ("put", dice.choice("abc"), drawn_text(dice), ())))
                if dice.randrange(3) == 0:
                    world.cut_after(dice.randrange(4), dice.choice((0, 3, 17, 18, 60)))
                records = read_log(world.log)
                try:
                    run(store, call)
                    texts = after(texts, call)
                except PowerCut:
                    # The call counts exactly if its record was written whole.
                    texts = after(texts, call) if read_log(world.log) != records else texts
                except PoolError:
                    pass
                world.fuse = None
                self.check_texts(world, texts, lost=True)
                self.check_rest(world)
                lost += sum(View(world).read(name) is Lost for name in texts)
        self.assertGreater(lost, 50)


class TestRefused(Cuts):
    def test_a_piece_of_the_lot_dies(self):
        dice = random.Random(913)
        kinds = {}
        for _ in range(500):
            world, store = founded([dice.choice((0, 1, 1, 2)) for _ in range(dice.randint(2, 4))])
            for _ in range(10):
                call = drawn_call(dice, world)
                try:
                    run(store, call)
                except CannotHold as error:
                    pool, numbers = refused_pool(world, call)
                    lot = [numbers.index(number) for number in error.lot]
                    self.assertEqual(lot, sorted(lot))
                    self.assertGreater(len(lot), 0)
                    for _ in range(6):
                        now = pool
                        for seat in lot_row(pool, lot):
                            now = after_round(now, seat, random_sends(dice, now, seat))
                        self.assertTrue(any(not now.holders[piece] for piece in lot))
                    kinds[call[0]] = kinds.get(call[0], 0) + 1
                except PoolError:
                    pass
        self.assertGreater(min(kinds.get(kind, 0) for kind in ("put", "drop_copy", "set_cap")), 15, kinds)


def refused_pool(world, call):
    """The pool that a call of put, drop_copy or set_cap would make, and the numbers of its pieces."""
    view = View(world)
    caps, rows, numbers = list(view.ledger.caps), list(map(list, view.copies)), list(view.numbers)
    if call[0] == "put":
        for number in view.ledger.names.get(call[1], ()):
            del rows[numbers.index(number)]
            numbers.remove(number)
        many = -(-len(call[2]) // 8)
        first = max([view.ledger.top] + [number for row in view.blocks for number in row]) + 1
        rows += [list(call[3] or range(world.seats))] * many
        numbers += range(first, first + many)
    elif call[0] == "drop_copy":
        rows[numbers.index(call[1])].remove(call[2])
    else:
        caps[call[1]] = call[2]
    return Pool(caps, rows), numbers
