"""The interface: its names, their files and their arguments."""

import importlib
import inspect
import unittest

FUNCTIONS = {
    "pool": ["pair_room(pool, pair)", "held_pairs(pool, piece)"],
    "pooltext": ["write_pool(pool)", "read_pool(text)"],
    "deeds": ["apply_deed(pool, deed)", "inverse_deed(pool, deed)", "loss_deed(pool, seat)"],
    "papers": [
        "is_dealing(pool, dealing)", "is_lot(pool, lot)", "is_greatest(pool, dealing, lot)",
        "lot_pairs(pool, lot)", "lot_lack(pool, lot)",
    ],
    "walks": [
        "is_walk(pool, dealing, walk)", "find_walk(pool, dealing, *, pieces=None)", "take_walk(dealing, walk)",
    ],
    "dealer": [
        "greatest_dealing(pool, *, start=None)", "most_dealt(pool)", "is_safe(pool)", "first_dealing(pool)",
    ],
    "worth": ["best_lot(pool, worths)"],
    "lots": ["least_lot(pool)", "greatest_lot(pool)", "open_pairs(pool)", "may_put(pool, holders)"],
    "raising": ["raised(pool, amount)", "least_raise(pool)", "least_cap(pool, seat)"],
    "kinds": ["spread_kinds(caps, kinds)", "least_kinds(caps, kinds)", "pool_of_kinds(caps, kinds)"],
    "rounds": [
        "after_loss(pool, seat)", "after_round(pool, seat, sends)", "told_sends(pool, dealing, seat)",
        "keeps_safe(pool, seat, sends)",
    ],
    "sending": ["least_sends(pool, seat)", "needed_pieces(pool, seat)", "droppable(pool)", "thinned(pool)"],
    "foe": ["killing_row(pool)", "lot_row(pool, lot)", "first_sends(pool, rounds)"],
    "tables": [
        "check_table(pool, table)", "play_table(pool, table, seat)", "table_of(pool, dealing)", "core(pool, table)",
        "is_right(pool, table)", "table_row(pool, table)",
    ],
    "nets": ["after_losses(net, lost, sends)"],
    "choices": [
        "give_back(net, choice, lost)", "is_lasting(net, choice, at_once)", "weak_seats(net, at_once)",
        "count_fault(choice, seats, cap, at_once)",
    ],
}
CLASSES = {
    "pool": {"Pool(caps, holders)": []},
    "history": {"History(pool)": ["do(self, deed)", "undo(self)", "redo(self)", "__iter__(self)"]},
    "games": {"Game(pool)": ["play(self, seat, sends)", "dead(self)", "first_fault(self)", "__iter__(self)"]},
    "nets": {"Net(roads, holders)": []},
    "keeping": {"KeptDealing(pool)": ["dealing(self)", "do(self, deed)"]},
    "errors": {
        "InvalidPool(piece)": [], "InvalidChoice(piece)": [], "InvalidText(line)": [], "InvalidDeed(deed)": [],
        "InvalidSends(at)": [], "InvalidTable(seat, at)": [], "Unsafe(lot)": [], "CannotHold(lot)": [],
        "Unfinished(copies)": [], "InvalidName(name)": [], "Missing(name)": [], "Lost(name)": [],
        "InvalidSeats(seats)": [], "InvalidCopy(number, seat)": [], "InvalidLine(text)": [],
    },
}


def module_of(name):
    return importlib.import_module(f"pairwarden.{name}")


class TestInterface(unittest.TestCase):
    def test_functions(self):
        for file, lines in FUNCTIONS.items():
            for line in lines:
                function = getattr(module_of(file), line.partition("(")[0])
                self.assertEqual(function.__module__, f"pairwarden.{file}")
                self.assertEqual(f"{function.__name__}{inspect.signature(function)}", line)

    def test_classes(self):
        for file, classes in CLASSES.items():
            for line, methods in classes.items():
                kind = getattr(module_of(file), line.partition("(")[0])
                self.assertEqual(kind.__module__, f"pairwarden.{file}")
                self.assertEqual(f"{kind.__name__}{inspect.signature(kind)}", line)
                for method in methods:
                    name = method.partition("(")[0]
                    self.assertIn(name, vars(kind))
                    self.assertEqual(f"{name}{inspect.signature(vars(kind)[name])}", method)

    def test_the_class_method(self):
        kind = module_of("nets").Net
        self.assertIsInstance(vars(kind)["level"], classmethod)
        self.assertEqual(str(inspect.signature(kind.level)), "(seats, cap, holders)")
