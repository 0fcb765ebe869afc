"""Point 3, and the errors of the interface."""

import unittest

from pairwarden import errors

WITH_ATTRIBUTES = [
    ("InvalidPool", {"piece": 3}),
    ("InvalidPool", {"piece": None}),
    ("InvalidChoice", {"piece": 0}),
    ("InvalidChoice", {"piece": None}),
    ("InvalidText", {"line": 1}),
    ("InvalidDeed", {"deed": ("cap", 9, -1)}),
    ("InvalidSends", {"at": 2}),
    ("InvalidTable", {"seat": 1, "at": 4}),
    ("InvalidTable", {"seat": None, "at": None}),
    ("Unsafe", {"lot": [0, 2]}),
    ("CannotHold", {"lot": []}),
    ("Unfinished", {"copies": [(1, 0), (1, 2)]}),
    ("InvalidName", {"name": "A"}),
    ("Missing", {"name": "a"}),
    ("Lost", {"name": "b"}),
    ("InvalidSeats", {"seats": (1, 1)}),
    ("InvalidCopy", {"number": 7, "seat": 1}),
    ("InvalidLine", {"text": "no such line"}),
]
WITHOUT = ["NothingToUndo", "NothingToRedo", "InvalidDealing", "InvalidTarget", "NoStore", "PowerCut"]
NAMES = sorted({name for name, _ in WITH_ATTRIBUTES} | set(WITHOUT))


class TestErrors(unittest.TestCase):
    def test_all_are_defined_in_the_file(self):
        for name in NAMES + ["PoolError"]:
            self.assertEqual(getattr(errors, name).__module__, "pairwarden.errors")

    def test_the_base_classes(self):
        self.assertEqual(errors.PoolError.__bases__, (ValueError,))
        for name in NAMES:
            self.assertEqual(getattr(errors, name).__bases__, (errors.PoolError,), name)

    def test_each_is_caught_as_pool_error_and_value_error_alone(self):
        for name in NAMES:
            given = next((list(values.values()) for word, values in WITH_ATTRIBUTES if word == name), [])
            error = getattr(errors, name)(*given)
            self.assertIsInstance(error, errors.PoolError)
            self.assertIsInstance(error, ValueError)
            for other in NAMES:
                self.assertEqual(isinstance(error, getattr(errors, other)), other == name)

    def test_attributes(self):
        for name, values in WITH_ATTRIBUTES:
            error = getattr(errors, name)(*values.values())
            self.assertEqual({key: getattr(error, key) for key in values}, values, name)

    def test_errors_without_attributes(self):
        for name in WITHOUT:
            with self.assertRaises(errors.PoolError):
                raise getattr(errors, name)

    def test_lists_are_copied(self):
        for name, attribute in (("Unsafe", "lot"), ("CannotHold", "lot"), ("Unfinished", "copies")):
            given = [(1, 0), (2, 1)]
            error = getattr(errors, name)(given)
            given.append((3, 0))
            self.assertEqual(getattr(error, attribute), [(1, 0), (2, 1)])
            self.assertIsInstance(getattr(error, attribute), list)
            getattr(error, attribute).clear()
            self.assertEqual(given, [(1, 0), (2, 1), (3, 0)])
