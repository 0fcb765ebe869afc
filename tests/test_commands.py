"""Point 92."""

import itertools
import random
import unittest

from pairwarden.commands import command_line, parse_line
from pairwarden.errors import InvalidLine
from samples import error_of

GREAT = 10 ** 60 - 1
PAIRS = [
    (("put", "a", (), "hello"), "put a:hello"),
    (("put", "a", (), ""), "put a:"),
    (("put", "a", (), "x y"), "put a:x y"),
    (("put", "a", (), " "), "put a: "),
    (("put", "a", (), ":"), "put a::"),
    (("put", "a", (), "b@0:c"), "put a:b@0:c"),
    (("put", "a", (), "@1"), "put a:@1"),
    (("put", "a", (0, 2), "x y"), "put a@0,2:x y"),
    (("put", "a", (2, 0, 1), ""), "put a@2,0,1:"),
    (("put", "a", (1, 1), "x"), "put a@1,1:x"),
    (("put", "a", (0,), ":@:"), "put a@0::@:"),
    (("put", "abcdefghijkl", (GREAT, 10), "put b:c"), f"put abcdefghijkl@{GREAT},10:put b:c"),
    (("put", "put", (), "put"), "put put:put"),
    (("put", "0", (), "~ !\"#$&'()*+,-./;<=>?[\\]^_`{|}"), "put 0:~ !\"#$&'()*+,-./;<=>?[\\]^_`{|}"),
    (("read", "a"), "read a"),
    (("read", "names"), "read names"),
    (("erase", "012345678901"), "erase 012345678901"),
    (("send", 1, 0), "send 1 0"),
    (("send", 0, 0), "send 0 0"),
    (("add", 12, 3), "add 12 3"),
    (("drop", 999999, 11), "drop 999999 11"),
    (("cap", 0, GREAT), f"cap 0 {GREAT}"),
    (("lose", 0), "lose 0"),
    (("lose", 10), "lose 10"),
    (("names",), "names"),
    (("sends",), "sends"),
    (("mend",), "mend"),
    (("pack",), "pack"),
]
WRONG = [
    "", " ", "hello", "PUT a:x", "Read a", "list", "add_copy 1 0", "found", "get a", "names;", "put", "read", "erase", "send", "lose",
    "put ", "read ", "erase ", "send ", "lose ", "cap ", "put a", "put a x", "put a@0", "put a@0,1", "put :x", "put @0:x",
    "put A:x", "put a b:x", "put a-b:x", "put abcdefghijklm:x", "put  a:x", "put a :x", " put a:x", "puta:x", "put\ta:x",
    "put a@:x", "put a@ :x", "put a@,:x", "put a@0,:x", "put a@,0:x", "put a@0,,1:x", "put a@0 1:x", "put a@0, 1:x", "put a@x:y",
    "put a@-1:x", "put a@+1:x", "put a@00:x", "put a@01:x", "put a@1.0:x", "put a@0@1:x", "put a@0,1@:x", "put a@@0:x", "put A@0:x",
    "read A", "read a ", "read  a", " read a", "read a b", "read a:", "read abcdefghijklm", "read a-b", "read a@0", "erase A",
    "erase a b", "erase  a", "erase a ", "erase a:", "erase -",
    "send 1", "send 1 0 0", "send 1  0", "send  1 0", "send 1 0 ", "send a 0", "send 1 b", "send -1 0", "send 1 -1", "send 01 0",
    "send 1 00", "send 1,0", "send 1:0", "add 1", "add 1 0 0", "add 01 0", "add x 0", "drop 1", "drop 1 0 0", "drop 1 02",
    "drop 1 x", "cap 0", "cap 0 1 2", "cap 00 1", "cap 0 01", "cap 0 -1", "cap 0 +1", "cap 0 1.5", "cap 0 x",
    "lose 0 0", "lose x", "lose -1", "lose 00", "lose 01", "lose  0", "lose 0 ", "lose a", "lose 1,2",
    "names ", " names", "names a", "sends ", "sends 1", "mend ", "mend 0", " mend", "pack ", "pack 0", "pack pack",
]


class TestLines(unittest.TestCase):
    def test_example(self):
        self.assertEqual(command_line(("put", "a", (0, 2), "x y")), "put a@0,2:x y")

    def test_there_and_back(self):
        for command, line in PAIRS:
            self.assertEqual(command_line(command), line)
            self.assertEqual(parse_line(line), command)
            self.assertIsInstance(parse_line(line), tuple)

    def test_wrong_lines(self):
        for line in WRONG:
            self.assertEqual(error_of(InvalidLine, parse_line, line).text, line)

    def test_newlines(self):
        for _, line in PAIRS:
            for at in range(len(line) + 1):
                other = line[:at] + "\n" + line[at:]
                self.assertEqual(error_of(InvalidLine, parse_line, other).text, other)
        for line in ("\n", "names\n", "put a:x\ny", "put a:\n"):
            self.assertEqual(error_of(InvalidLine, parse_line, line).text, line)

    def test_drawn_commands(self):
        dice = random.Random(92)
        chars = [chr(code) for code in range(32, 127) if chr(code) != "%"]
        for _ in range(1500):
            name = "".join(dice.choices("abyz0189", k=dice.choice((1, 2, 12))))
            number, seat = dice.choice((0, 1, 10, 999999, GREAT)), dice.randrange(12)
            command = dice.choice((
                ("put", name, tuple(dice.choices(range(12), k=dice.randrange(4))), "".join(dice.choices(chars, k=dice.randrange(30)))),
                ("read", name), ("erase", name), ("send", number, seat), ("add", number, seat), ("drop", number, seat),
                ("cap", seat, number), ("lose", number),
            ))
            self.assertEqual(parse_line(command_line(command)), command)

    def test_one_changed_character(self):
        # Whatever is parsed has exactly the line that was parsed.
        found = 0
        for _, line in PAIRS:
            for at, char in itertools.product(range(len(line) + 1), " :@,019azA-"):
                for other in (line[:at] + char + line[at + 1:], line[:at] + char + line[at:], line[:at] + line[at + 1:]):
                    try:
                        command = parse_line(other)
                    except InvalidLine as error:
                        self.assertEqual(error.text, other)
                        continue
                    self.assertEqual(command_line(command), other)
                    found += 1
        self.assertGreater(found, 1000)
