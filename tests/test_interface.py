"""The interface: its names, their files and their arguments."""

import importlib
import inspect
import unittest

FUNCTIONS = {
    "pool": ["pair_room(pool, pair)", "held_pairs(pool, piece)"],
    "pooltext": ["write_pool(pool)", "read_pool(text)"],
    "deeds": ["apply_deed(pool, deed)", "inverse_deed(pool, deed)", "loss_deed(pool, seat)"],
    "papers": [
        "is_dealing(pool, dealing)", "is_lot(pool, lot)", "is_greatest(pool, dealing, lot)",
        "lot_pairs(pool, lot)", "lot_lack(pool, lot)",
    ],
    "walks": [
        "is_walk(pool, dealing, walk)", "find_walk(pool, dealing, *, pieces=None)", "take_walk(dealing, walk)",
    ],
    "dealer": [
        "greatest_dealing(pool, *, start=None)", "most_dealt(pool)", "is_safe(pool)", "first_dealing(pool)",
    ],
    "worth": ["best_lot(pool, worths)"],
    "lots": ["least_lot(pool)", "greatest_lot(pool)", "open_pairs(pool)", "may_put(pool, holders)"],
    "raising": ["raised(pool, amount)", "least_raise(pool)", "least_cap(pool, seat)"],
    "kinds": ["spread_kinds(caps, kinds)", "least_kinds(caps, kinds)", "pool_of_kinds(caps, kinds)"],
    "rounds": [
        "after_loss(pool, seat)", "after_round(pool, seat, sends)", "told_sends(pool, dealing, seat)",
        "keeps_safe(pool, seat, sends)",
    ],
    "sending": ["least_sends(pool, seat)", "needed_pieces(pool, seat)", "droppable(pool)", "thinned(pool)"],
    "foe": ["killing_row(pool)", "lot_row(pool, lot)", "first_sends(pool, rounds)"],
    "tables": [
        "check_table(pool, table)", "play_table(pool, table, seat)", "table_of(pool, dealing)", "core(pool, table)",
        "is_right(pool, table)", "table_row(pool, table)",
    ],
    "nets": ["after_losses(net, lost, sends)"],
    "choices": [
        "give_back(net, choice, lost)", "is_lasting(net, choice, at_once)", "weak_seats(net, at_once)",
        "count_fault(choice, seats, cap, at_once)",
    ],
    "cases": ["settle(net, at_once)", "is_case_tree(net, at_once, tree)"],
    "plans": [
        "cheapest_plan(pool, *, without=())", "is_quote(pool, quote, *, without=())",
        "copies_to_add(pool, *, without=())", "retirement(pool, seat)",
    ],
    "moving": ["moves(pool, target)", "next_move(pool, target)"],
    "even": ["even_pairs(seats, pieces)", "least_even_cap(seats, pieces)"],
    "cells": ["write_block(number, text)", "read_block(cell)", "tear(old, new, kept)"],
    "records": ["record_text(record)", "read_record(text)", "read_log(log)", "log_end(log)"],
    "store": ["found(world, caps)"],
    "commands": ["command_line(command)", "parse_line(line)"],
    "desk": ["replay(caps, lines)"],
}
CLASSES = {
    "pool": {"Pool(caps, holders)": []},
    "history": {"History(pool)": ["do(self, deed)", "undo(self)", "redo(self)", "__iter__(self)"]},
    "games": {"Game(pool)": ["play(self, seat, sends)", "dead(self)", "first_fault(self)", "__iter__(self)"]},
    "nets": {"Net(roads, holders)": []},
    "keeping": {"KeptDealing(pool)": ["dealing(self)", "do(self, deed)"]},
    "plans": {"Quote(cost, plan, piece_prices, pair_prices)": []},
    "world": {
        "World(seats)": [
            "cut_after(self, writes, kept)", "write_cell(self, seat, slot, cell)", "write_log(self, index, text)",
            "lose(self, seat)", "lose_cells(self, seat, slots)", "twin(self)",
        ],
    },
    "ledger": {"Ledger(records)": ["to_picture(self)"]},
    "store": {
        "Store(world)": [
            "list_names(self)", "list_numbers(self)", "list_caps(self)", "list_copies(self)", "list_wardens(self)",
            "list_lacking(self)", "is_at_rest(self)", "as_pool(self)", "read(self, name)",
            "put(self, name, text, *, at=())", "erase(self, name)", "list_sends(self)", "send(self, number, seat)",
            "mend(self)", "add_copy(self, number, seat)", "drop_copy(self, number, seat)", "set_cap(self, seat, cap)",
            "pack(self)",
        ],
    },
    "desk": {"Desk(caps)": ["do(self, line)"]},
    "errors": {
        "InvalidPool(piece)": [], "InvalidChoice(piece)": [], "InvalidText(line)": [], "InvalidDeed(deed)": [],
        "InvalidSends(at)": [], "InvalidTable(seat, at)": [], "Unsafe(lot)": [], "CannotHold(lot)": [],
        "Unfinished(copies)": [], "InvalidName(name)": [], "Missing(name)": [], "Lost(name)": [],
        "InvalidSeats(seats)": [], "InvalidCopy(number, seat)": [], "InvalidLine(text)": [],
    },
}


def module_of(name):
    return importlib.import_module(f"pairwarden.{name}")


ATTRIBUTES = {
    "World": ["seats", "disks", "log", "writes", "fuse", "kept"],
    "Ledger": ["caps", "names", "wardens", "top"],
    "Store": ["world", "writing"],
    "Desk": ["world", "store", "journal"],
    "Quote": ["cost", "plan", "piece_prices", "pair_prices"],
}


class TestInterface(unittest.TestCase):
    def test_functions(self):
        for file, lines in FUNCTIONS.items():
            for line in lines:
                function = getattr(module_of(file), line.partition("(")[0])
                self.assertEqual(function.__module__, f"pairwarden.{file}")
                self.assertEqual(f"{function.__name__}{inspect.signature(function)}", line)

    def test_classes(self):
        for file, classes in CLASSES.items():
            for line, methods in classes.items():
                kind = getattr(module_of(file), line.partition("(")[0])
                self.assertEqual(kind.__module__, f"pairwarden.{file}")
                self.assertEqual(f"{kind.__name__}{inspect.signature(kind)}", line)
                for method in methods:
                    name = method.partition("(")[0]
                    self.assertIn(name, vars(kind))
                    self.assertEqual(f"{name}{inspect.signature(vars(kind)[name])}", method)

    def test_the_class_method(self):
        kind = module_of("nets").Net
        self.assertIsInstance(vars(kind)["level"], classmethod)
        self.assertEqual(str(inspect.signature(kind.level)), "(seats, cap, holders)")

    def test_attributes_are_set_on_creation(self):
        desk = module_of("desk").Desk([1, 1])
        made = [
            desk, desk.world, desk.store, module_of("ledger").Ledger([("picture", (1,), (), ())]),
            module_of("plans").Quote(0, (), (), ()),
        ]
        self.assertEqual({each.__class__.__name__ for each in made}, set(ATTRIBUTES))
        for each in made:
            for name in ATTRIBUTES[each.__class__.__name__]:
                self.assertIn(name, vars(each))

    def test_constants(self):
        cells = module_of("cells")
        self.assertEqual([cells.WIDTH, cells.BLANK], [17, "-----------------"])
