"""Points 67 to 69."""

import random
import unittest

from pairwarden.cells import BLANK, WIDTH, read_block, tear, write_block

CHARS = [chr(code) for code in range(32, 127) if chr(code) != "%"]
NUMBERS = [1, 2, 9, 10, 12, 99, 100, 12345, 100000, 999998, 999999]


def drawn_texts(dice, count):
    """Texts of 1 to 8 characters, many of them with dashes and spaces somewhere."""
    few = ["-", " ", "a", ">", "<", "1"]
    return ["".join(dice.choices(dice.choice((few, CHARS)), k=dice.randint(1, 8))) for _ in range(count)]


class TestBlocks(unittest.TestCase):
    def test_example(self):
        self.assertEqual(write_block(12, "ab"), "<0000122ab------>")

    def test_the_blank_cell(self):
        self.assertEqual([WIDTH, BLANK], [17, "-" * 17])
        self.assertIsNone(read_block(BLANK))

    def test_ordinary(self):
        self.assertEqual(write_block(1, "a"), "<0000011a------->")
        self.assertEqual(write_block(999999, "12345678"), "<999999812345678>")
        self.assertEqual(write_block(40, "-"), "<0000401-------->")
        self.assertEqual(write_block(40, "--------"), "<0000408-------->")
        self.assertEqual(write_block(7, " a -"), "<0000074 a ----->")
        self.assertEqual(read_block("<0000122ab------>"), (12, "ab"))
        self.assertEqual(read_block("<9999998>>>>>>>>>"), (999999, ">>>>>>>>"))

    def test_there_and_back(self):
        dice = random.Random(68)
        texts = drawn_texts(dice, 400) + ["-", "--", "-a", "a-", " ", "        ", "--------", ">", "<0000011", "a b-c-d "]
        for text in texts:
            for number in NUMBERS:
                cell = write_block(number, text)
                self.assertEqual(len(cell), 17)
                self.assertEqual(read_block(cell), (number, text))
                digits = str(number)
                wanted = "<" + "0" * (6 - len(digits)) + digits + str(len(text)) + text + "-" * (8 - len(text)) + ">"
                self.assertEqual(cell, wanted)
                self.assertIsInstance(read_block(cell), tuple)

    def test_one_wrong_part(self):
        for cell in (
            "-0000122ab------>", " 0000122ab------>", ">0000122ab------>", "00000122ab------>",
            "<0000122ab-------", "<0000122ab------<", "<0000122ab------ ", "<0000122ab------a",
            "<0000002ab------>", "<0000000-------->", "<00001a2ab------>", "<-000122ab------>", "< 000122ab------>",
            "<+000122ab------>", "<00_0122ab------>", "<12    2ab------>", "<000 122ab------>", "<00001.2ab------>",
            "<0000120ab------>", "<0000120-------->", "<0000129ab------>", "<000012aab------>", "<000012-ab------>",
            "<000012 ab------>", "<0000121ab------>", "<0000122abc----->", "<0000122ab----- >", "<0000122ab-----a>",
            "<0000122ab a---->", "<0000121-a------>", "<0000127abcdefgh>",
            "", "<", ">", "<>", "ab", "<1", "<000012", "<0000122", "<0000121a", "0000122", "1" * 17, "<" + "1" * 16, "<0000122>", "<0000122ab----->", "<0000122ab------->", "<0000122ab------>>", "<0000122ab------>-",
            "-<0000122ab------", "<0000122ab------> ", " <0000122ab------>",
        ):
            self.assertIsNone(read_block(cell), cell)

    def test_newlines(self):
        for text in ("ab", "abcdefgh"):
            cell = write_block(12, text)
            for at in range(17):
                self.assertIsNone(read_block(cell[:at] + "\n" + cell[at + 1:]))
                self.assertIsNone(read_block(cell[:at] + "\n" + cell[at:]))
            self.assertIsNone(read_block(cell + "\n"))
            self.assertIsNone(read_block("\n" + cell))
        self.assertIsNone(read_block("<0000122a\n------>"))
        self.assertIsNone(read_block("\n" * 17))

    def test_every_string_that_differs_in_one_character(self):
        for number, text in ((12, "ab"), (100000, "a-"), (9, "12345678"), (10, "-")):
            cell = write_block(number, text)
            for at in range(17):
                for char in CHARS:
                    other = cell[:at] + char + cell[at + 1:]
                    found = read_block(other)
                    if found is not None:
                        self.assertEqual(write_block(*found), other)
                    if at in (0, 16) and other != cell:
                        self.assertIsNone(found)

    def test_drawn_strings(self):
        dice = random.Random(681)
        found = 0
        for _ in range(20000):
            number = "".join(dice.choices("0123456789" + dice.choice(("", "-a ")), k=7))
            cell = "<" + number + "".join(dice.choices("-a", (3, 1), k=8)) + dice.choice(">>>-")
            block = read_block(cell)
            parts = (cell[1:7], cell[7], cell[8:16])
            right = (
                cell[16] == ">" and number.isdigit() and 1 <= int(parts[0]) and parts[1] in "12345678"
                and set(parts[2][int(parts[1]):]) <= {"-"}
            )
            self.assertEqual(block, (int(parts[0]), parts[2][:int(parts[1])]) if right else None)
            found += right
        self.assertGreater(found, 500)


class TestTear(unittest.TestCase):
    def test_example(self):
        self.assertEqual(tear(BLANK, "<0000122ab------>", 3), "<00--------------")

    def test_ordinary(self):
        self.assertEqual([tear("abc", "xyz", kept) for kept in (0, 1, 2, 3, 4, 99)], ["abc", "xbc", "xyc"] + ["xyz"] * 3)

    def test_unlike_lengths(self):
        self.assertEqual([tear("abcde", "xy", kept) for kept in range(7)], ["abcde", "xbcde", "xycde", "xyde", "xye", "xy", "xy"])
        self.assertEqual([tear("ab", "vwxyz", kept) for kept in range(7)], ["ab", "vb", "vw", "vwx", "vwxy", "vwxyz", "vwxyz"])
        self.assertEqual([tear("", "xy", kept) for kept in range(4)], ["", "x", "xy", "xy"])
        self.assertEqual([tear("ab", "", kept) for kept in range(4)], ["ab", "b", "", ""])
        self.assertEqual([tear("", "", 0), tear("", "", 5)], ["", ""])

    def test_torn_blocks(self):
        dice = random.Random(69)
        for text in drawn_texts(dice, 60):
            for number in NUMBERS:
                cell = write_block(number, text)
                for kept in range(20):
                    torn = tear(BLANK, cell, kept)
                    self.assertEqual(len(torn), 17)
                    self.assertEqual(torn, cell[:kept] + "-" * (17 - kept))
                    self.assertEqual(read_block(torn), None if kept <= 16 else (number, text))
                    torn = tear(cell, BLANK, kept)
                    self.assertEqual(read_block(torn), (number, text) if kept == 0 else None)
                for kept in range(1, 20):
                    self.assertIsNone(read_block(tear("".join(dice.choices(CHARS, k=17)), BLANK, kept)))
