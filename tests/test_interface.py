"""The interface: its names, their files and their arguments."""

import importlib
import inspect
import unittest

FUNCTIONS = {
    "pool": ["pair_room(pool, pair)", "held_pairs(pool, piece)"],
    "pooltext": ["write_pool(pool)", "read_pool(text)"],
    "deeds": ["apply_deed(pool, deed)", "inverse_deed(pool, deed)", "loss_deed(pool, seat)"],
    "papers": [
        "is_dealing(pool, dealing)", "is_lot(pool, lot)", "is_greatest(pool, dealing, lot)",
        "lot_pairs(pool, lot)", "lot_lack(pool, lot)",
    ],
    "walks": [
        "is_walk(pool, dealing, walk)", "find_walk(pool, dealing, *, pieces=None)", "take_walk(dealing, walk)",
    ],
    "dealer": [
        "greatest_dealing(pool, *, start=None)", "most_dealt(pool)", "is_safe(pool)", "first_dealing(pool)",
    ],
    "worth": ["best_lot(pool, worths)"],
}
CLASSES = {
    "pool": {"Pool(caps, holders)": []},
    "history": {"History(pool)": ["do(self, deed)", "undo(self)", "redo(self)", "__iter__(self)"]},
    "keeping": {"KeptDealing(pool)": ["dealing(self)", "do(self, deed)"]},
    "errors": {
        "InvalidPool(piece)": [], "InvalidChoice(piece)": [], "InvalidText(line)": [], "InvalidDeed(deed)": [],
        "InvalidSends(at)": [], "InvalidTable(seat, at)": [], "Unsafe(lot)": [], "CannotHold(lot)": [],
        "Unfinished(copies)": [], "InvalidName(name)": [], "Missing(name)": [], "Lost(name)": [],
        "InvalidSeats(seats)": [], "InvalidCopy(number, seat)": [], "InvalidLine(text)": [],
    },
}


def module_of(name):
    return importlib.import_module(f"pairwarden.{name}")


class TestInterface(unittest.TestCase):
    def test_functions(self):
        for file, lines in FUNCTIONS.items():
            for line in lines:
                function = getattr(module_of(file), line.partition("(")[0])
                self.assertEqual(function.__module__, f"pairwarden.{file}")
                self.assertEqual(f"{function.__name__}{inspect.signature(function)}", line)

    def test_classes(self):
        for file, classes in CLASSES.items():
            for line, methods in classes.items():
                kind = getattr(module_of(file), line.partition("(")[0])
                self.assertEqual(kind.__module__, f"pairwarden.{file}")
                self.assertEqual(f"{kind.__name__}{inspect.signature(kind)}", line)
                for method in methods:
                    name = method.partition("(")[0]
                    self.assertIn(name, vars(kind))
                    self.assertEqual(f"{name}{inspect.signature(vars(kind)[name])}", method)
