"""Points 9 and 10."""

import unittest

from pairwarden.errors import InvalidText
from pairwarden.pool import Pool
from pairwarden.pooltext import read_pool, write_pool
from samples import error_of, greatest_pools, many_pools, same, seconds

GREAT = 10 ** 60 - 1


def wrong_line(text):
    return error_of(InvalidText, read_pool, text).line


class TestWrite(unittest.TestCase):
    def test_examples(self):
        self.assertEqual(write_pool(Pool([2, 1], [[1, 0], []])), "seats 2 1\npiece 0 1\npiece\n")

    def test_character_by_character(self):
        self.assertEqual(write_pool(Pool([0], [])), "seats 0\n")
        self.assertEqual(write_pool(Pool([0], [[]])), "seats 0\npiece\n")
        self.assertEqual(write_pool(Pool([10, 0, 7], [[2], [2, 1, 0]])), "seats 10 0 7\npiece 2\npiece 0 1 2\n")
        self.assertEqual(write_pool(Pool([1] * 12, [[11, 2, 10]])), "seats" + " 1" * 12 + "\npiece 2 10 11\n")
        self.assertEqual(write_pool(Pool([GREAT, 0], [])), "seats " + "9" * 60 + " 0\n")


class TestRead(unittest.TestCase):
    def test_example(self):
        self.assertEqual(wrong_line("seats 1\npiece 1\n"), 2)

    def test_good_texts(self):
        pool = read_pool("seats 2 1\npiece 0 1\npiece\n")
        self.assertEqual([pool.caps, pool.holders], [(2, 1), ((0, 1), ())])
        self.assertEqual(read_pool("seats 0\n").pieces, 0)
        self.assertEqual(read_pool("seats 1" + "0" * 59 + "\n").caps, (10 ** 59,))
        self.assertEqual(read_pool("seats " + "9" * 60 + " 0\npiece 1\n").caps, (GREAT, 0))

    def test_there_and_back(self):
        for pool in many_pools(300, 9) + greatest_pools():
            text = write_pool(pool)
            self.assertTrue(same(read_pool(text), pool))
            self.assertEqual(write_pool(read_pool(text)), text)

    def test_wrong_first_lines(self):
        lines = [
            "", " ", "seats", "seats ", "seat 1", "Seats 1", "seats 1 ", " seats 1", "seats  1", "seats 1  1",
            "seats 01", "seats 1 00", "seats -1", "seats +1", "seats a", "seats 1a", "seats 1.0", "seats 1_0",
            "seats 1,1", "seats1", "piece 0", "piece", "seats 1 piece 0", "seatss 1", "seats 1 -0",
            "seats -" + "9" * 59, "seats 0" + "9" * 59,
        ]
        for line in lines:
            for rest in ("", "\n", "\npiece\n", "\npiece 0\n", "\nwrong\n", "\n\n"):
                self.assertEqual(wrong_line(line + rest), 1, line + rest)

    def test_the_empty_text(self):
        self.assertEqual(wrong_line(""), 1)
        self.assertEqual(wrong_line("\n"), 1)
        self.assertEqual(wrong_line("\nseats 1\n"), 1)

    def test_wrong_later_lines(self):
        lines = [
            "", " ", "piece ", " piece", "piece  0", "piece 0 ", "piece 0  1", "Piece 0", "pieces 0", "piec 0",
            "piece0", "seats 1 1 1", "seats", "piece 00", "piece 01", "piece 0 01", "piece -1", "piece +1", "piece a",
            "piece 3", "piece 0 3", "piece 12", "piece 1 0", "piece 0 0", "piece 0 1 1", "piece 2 0", "piece 0 2 1",
            "piece 0,1", "piece 1.0", "piece 0 1 2 3", "piece " + "9" * 60, "piece 1" + "0" * 59, "0", "piece 0 piece",
        ]
        for line in lines:
            for before in (1, 2, 5):
                start = "seats 1 1 1\n" + "piece 0 2\n" * (before - 1)
                for rest in ("", "piece\n", "wrong\n", "\n"):
                    self.assertEqual(wrong_line(start + line + "\n" + rest), before + 1, line)

    def test_a_last_line_without_a_newline(self):
        self.assertEqual(wrong_line("seats 1"), 1)
        self.assertEqual(wrong_line("seats 1\npiece"), 2)
        self.assertEqual(wrong_line("seats 1\npiece 0"), 2)
        self.assertEqual(wrong_line("seats 1\npiece 0\npiece\npiece 0"), 4)
        self.assertEqual(wrong_line("seats 1\n "), 2)
        self.assertEqual(wrong_line("seats 1\nwrong"), 2)

    def test_an_empty_line_at_the_end(self):
        self.assertEqual(wrong_line("seats 1\n\n"), 2)
        self.assertEqual(wrong_line("seats 1\npiece 0\n\n"), 3)
        self.assertEqual(wrong_line("seats 1\npiece 0\n\n\n"), 3)

    def test_the_first_of_several_wrong_lines(self):
        self.assertEqual(wrong_line("seats 1\npiece\npiece 1\npiece 2\n"), 3)
        self.assertEqual(wrong_line("seats 1\npiece 1\npiece 0"), 2)
        self.assertEqual(wrong_line("seats 1\npiece 0\n\npiece 7"), 3)
        self.assertEqual(wrong_line("seats 01\npiece 1\n"), 1)
        self.assertEqual(wrong_line("seats\npiece 1"), 1)

    def test_seats_are_those_of_the_first_line(self):
        self.assertEqual(read_pool("seats 1 1\npiece 1\n").holders, ((1,),))
        self.assertEqual(wrong_line("seats 1\npiece 1\n"), 2)
        self.assertEqual(wrong_line("seats 1 1\npiece 1\npiece 2\n"), 3)

    def test_only_texts_of_pools_are_read(self):
        # Every change of one character is refused, or gives another text's pool.
        text = "seats 2 10\npiece 0 1\npiece\npiece 1\n"
        for at in range(len(text)):
            for sign in ("", " ", "\n", "0", "1", "-", "x"):
                changed = text[:at] + sign + text[at + 1:]
                try:
                    pool = read_pool(changed)
                except InvalidText:
                    continue
                self.assertEqual(write_pool(pool), changed)

    def test_time(self):
        for pool in greatest_pools():
            self.assertLess(seconds(write_pool, pool), 1)
            self.assertLess(seconds(read_pool, write_pool(pool)), 1)
