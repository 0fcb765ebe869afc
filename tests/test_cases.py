"""Points 57 to 59."""

import random
import unittest

from choosing import all_choices, fits_tree, tree_size
from pairwarden.cases import is_case_tree, settle
from pairwarden.choices import is_lasting
from pairwarden.dealer import is_safe
from pairwarden.nets import Net
from samples import many_pools, random_net, seconds

GREAT = 10 ** 40 - 1
# Nets without a lasting choice whose case trees are as large as a search for large ones has found.
LARGE = [
    ([[0, 2, 1, 0, 3], [0, 1, 0, 0, 1], [3, 1, 1, 3, 1], [3, 2, 1, 1, 1], [0, 0, 1, 0, 0]], 1),
    ([[2, 1, 0, 1, 0], [0, 0, 0, 0, 0], [3, 1, 2, 1, 2], [3, 3, 3, 0, 2], [3, 0, 0, 1, 2]], 1),
    ([[2, 2, 1, 1, 1], [1, 2, 0, 0, 1], [1, 1, 1, 3, 1], [1, 1, 2, 1, 3], [1, 3, 3, 1, 0]], 2),
    ([[0, 3, 3, 1, 2], [3, 2, 2, 3, 2], [3, 3, 0, 2, 2], [1, 1, 1, 1, 1], [2, 2, 2, 2, 1]], 3),
]


def cap_net(pool):
    """The net of point 59: each sender may send as much to every seat as its cap says."""
    return Net([[cap] * pool.seats for cap in pool.caps], pool.holders)


class TestSettle(unittest.TestCase):
    def test_example(self):
        self.assertEqual(settle(Net.level(2, 1, [[0, 1]]), 1), ("kept", [(0, 1)]))

    def check(self, net, at_once):
        word, found = settle(net, at_once)
        if word == "kept":
            self.assertIsInstance(found, list)
            self.assertTrue(all(isinstance(row, tuple) for row in found))
            self.assertIs(is_lasting(net, found, at_once), True)
        else:
            self.assertEqual(word, "lost")
            self.assertIs(is_case_tree(net, at_once, found), True)
            self.assertTrue(fits_tree(net, at_once, found))
        return word

    def test_ordinary(self):
        for net, at_once, word in (
            (Net.level(2, 1, [[0, 1], [0, 1]]), 1, "lost"),
            (Net.level(2, 2, [[0, 1], [0, 1]]), 1, "kept"),
            (Net.level(3, 1, [[0, 1, 2]] * 3), 1, "kept"),
            (Net.level(3, 1, [[0, 1, 2]] * 4), 1, "lost"),
            (Net.level(3, 0, [[0, 1, 2]]), 1, "lost"),
            (Net.level(3, 1, [[0, 1, 2]]), 2, "kept"),
            (Net.level(3, 1, [[0, 1, 2]] * 2), 2, "lost"),
            # Only along the circle can anything be sent, and a pair is not enough.
            (Net([[0, 1, 0], [0, 0, 1], [1, 0, 0]], [[0, 1, 2]]), 1, "kept"),
            (Net([[0, 1, 0], [0, 0, 1], [1, 0, 0]], [[0, 1, 2]] * 2), 1, "lost"),
            (Net([[0, 1, 0], [0, 0, 1], [1, 0, 0]], [[0, 1]]), 1, "lost"),
        ):
            self.assertEqual(self.check(net, at_once), word)

    def test_edges(self):
        for at_once in (1, 2, 5, GREAT):
            self.assertEqual(settle(Net.level(1, 0, []), at_once), ("kept", []))
            self.assertEqual(settle(Net.level(5, 9, []), at_once), ("kept", []))
            self.assertEqual(self.check(Net.level(3, 9, [[0, 1, 2], []]), at_once), "lost")
            self.assertEqual(self.check(Net.level(3, 9, [[], [0, 1, 2]]), at_once), "lost")
            self.assertEqual(self.check(Net.level(3, 9, [[0, 1, 2], [1]]), at_once), "lost")
            self.assertEqual(self.check(Net.level(1, 9, [[0]]), at_once), "lost")
        for at_once in (3, 4, 5, 6, GREAT):
            self.assertEqual(self.check(Net.level(3, GREAT, [[0, 1, 2]] * 2), at_once), "lost")
        # As many holders as seats that may be lost are too few, and one more is enough.
        self.assertEqual(self.check(Net.level(5, 9, [[0, 1, 2], [2, 3, 4]]), 3), "lost")
        self.assertEqual(self.check(Net.level(5, 9, [[0, 1, 2], [2, 3, 4]]), 2), "kept")
        self.assertEqual(self.check(Net.level(5, 4, [range(5)] * 4), 4), "kept")
        self.assertEqual(self.check(Net.level(5, 3, [range(5)] * 4), 4), "lost")

    def test_against_all_choices(self):
        dice = random.Random(57)
        found = set()
        for _ in range(500):
            net = random_net(dice, seats=4, pieces=3, road=3)
            for at_once in (1, 2, 3, 4, 7):
                choices = [choice for choice in all_choices(net) if all(len(row) > at_once for row in choice)]
                wanted = any(is_lasting(net, choice, at_once) for choice in choices)
                self.assertEqual(self.check(net, at_once), "kept" if wanted else "lost")
                found.add((wanted and net.pieces > 0, at_once))
        self.assertLessEqual({(True, 1), (True, 2), (False, 1), (False, 2), (False, 3), (False, 7)}, found)

    def test_nets_of_caps(self):
        found = []
        for pool in many_pools(300, 59, seats=5, pieces=4) + many_pools(200, 591, seats=3, pieces=4, cap=2):
            word = self.check(cap_net(pool), 1)
            self.assertEqual(word, "kept" if is_safe(pool) else "lost")
            found.append(word)
        self.assertGreater(min(found.count("kept"), found.count("lost")), 100)

    def test_what_has_the_fewest_cases_comes_first(self):
        # Between the first four seats nothing can be sent, so the last piece alone shows that there is no choice.
        roads = [[0, 0, 0, 0, 9]] * 4 + [[9, 9, 9, 9, 0]]
        word, tree = settle(Net(roads, [range(5)] * 3 + [range(4)]), 1)
        self.assertEqual([word, tree[1], tree_size(tree)], ["lost", 3, 12])
        word, tree = settle(Net.level(5, 9, [range(5), range(5), [2], range(5)]), 1)
        self.assertEqual([word, tree], ["lost", ("cases", 2, ())])

    def test_arguments_do_not_change(self):
        net = Net.level(3, 1, [[0, 1, 2], [0, 1]])
        first = settle(net, 1)
        first[1].append((9,))
        first[1][0] = None
        self.assertIs(is_lasting(net, settle(net, 1)[1], 1), True)
        self.assertEqual([net.roads, net.holders], [((1,) * 3,) * 3, ((0, 1, 2), (0, 1))])

    def test_time(self):
        dice = random.Random(571)
        nets = [(Net(roads, [range(5)] * 4), at_once) for roads, at_once in LARGE]
        for _ in range(150):
            roads = [[dice.choice((0, 1, 1, 2, 3, GREAT)) for _ in range(5)] for _ in range(5)]
            holders = [dice.sample(range(5), dice.choice((5, 5, 4, 3))) for _ in range(4)]
            nets.append((Net(roads, holders), dice.choice((1, 1, 2, 3))))
        for cap in (0, 1, 2, 3, 4, GREAT):
            nets += [(Net.level(5, cap, [range(5)] * 4), at_once) for at_once in (1, 2, 3, 4, 5)]
        sizes = []
        for net, at_once in nets:
            self.assertLess(seconds(settle, net, at_once), 5)
            word, found = settle(net, at_once)
            if word == "lost":
                self.assertLess(seconds(is_case_tree, net, at_once, found), 5)
                sizes.append(tree_size(found))
                self.assertIs(is_case_tree(net, at_once, found), True)
            else:
                self.assertIs(is_lasting(net, found, at_once), True)
        self.assertGreater(max(sizes), 50000)
        self.assertLessEqual(max(sizes), 60000)


FAULT = ("fault", (0,), 0, (0,))
NONE = Net.level(2, 0, [[0, 1]])
TWO = Net.level(2, 1, [[0, 1], [0, 1]])
THREE = Net.level(3, 0, [[0, 1, 2]])
THREE_FAULTS = (
    ("fault", (1,), 1, (0,)), ("fault", (2,), 2, (0,)), ("fault", (1,), 1, (0,)), ("fault", (0,), 0, (0,)),
)


def two(fault, net=TWO, at_once=1):
    """What is said of the tree in which both pieces are settled with the two seats, and then comes this fault."""
    return is_case_tree(net, at_once, ("cases", 0, (("cases", 1, (fault,)),)))


class TestTree(unittest.TestCase):
    def test_example(self):
        self.assertIs(two(("fault", (0,), 0, (0, 1))), True)

    def test_right_trees(self):
        self.assertIs(is_case_tree(NONE, 1, ("cases", 0, (FAULT,))), True)
        self.assertIs(is_case_tree(TWO, 1, ("cases", 1, (("cases", 0, (("fault", (1,), 1, (0, 1)),)),))), True)
        self.assertIs(is_case_tree(THREE, 1, ("cases", 0, THREE_FAULTS)), True)
        self.assertIs(is_case_tree(Net.level(2, 5, [[0]]), 1, ("cases", 0, ())), True)
        self.assertIs(is_case_tree(Net.level(2, 5, [[], [0, 1]]), 1, ("cases", 0, ())), True)
        self.assertIs(is_case_tree(Net.level(3, 5, [[0, 1, 2]]), 3, ("cases", 0, ())), True)
        self.assertIs(is_case_tree(Net.level(3, 5, [[0, 1, 2]]), GREAT, ("cases", 0, ())), True)
        # A case that could end with a fault may go on with further pieces.
        net = Net.level(2, 0, [[0, 1], [0, 1]])
        self.assertIs(is_case_tree(net, 1, ("cases", 0, (("cases", 1, (FAULT,)),))), True)
        self.assertIs(is_case_tree(net, 1, ("cases", 0, (("cases", 1, (("fault", (1,), 1, (1,)),)),))), True)

    def test_the_piece_of_a_case(self):
        self.assertIs(is_case_tree(NONE, 1, ("cases", 0, (("cases", 0, (FAULT,)),))), False)
        for piece in (-1, 1, 2, -GREAT, GREAT):
            self.assertIs(is_case_tree(NONE, 1, ("cases", piece, (FAULT,))), False)
            self.assertIs(is_case_tree(NONE, 1, ("cases", piece, (("cases", 0, (FAULT,)),))), False)
            self.assertIs(is_case_tree(NONE, 1, ("cases", 0, (("cases", piece, (FAULT,)),))), False)
            self.assertIs(is_case_tree(NONE, 1, ("cases", piece, ())), False)
        self.assertIs(is_case_tree(Net.level(2, 0, []), 1, ("cases", 0, ())), False)

    def test_the_nodes_of_a_case(self):
        self.assertIs(is_case_tree(THREE, 1, ("cases", 0, THREE_FAULTS[:-1])), False)
        self.assertIs(is_case_tree(THREE, 1, ("cases", 0, THREE_FAULTS[1:])), False)
        self.assertIs(is_case_tree(THREE, 1, ("cases", 0, THREE_FAULTS + (FAULT,))), False)
        self.assertIs(is_case_tree(THREE, 1, ("cases", 0, ())), False)
        self.assertIs(is_case_tree(NONE, 1, ("cases", 0, ())), False)
        self.assertIs(is_case_tree(Net.level(2, 0, [[0]]), 1, ("cases", 0, (("cases", 0, ()),))), False)
        self.assertIs(is_case_tree(Net.level(3, 0, [[0, 1, 2]]), 3, ("cases", 0, (FAULT,))), False)
        first, second, third, fourth = THREE_FAULTS
        for nodes in ((second, first, third, fourth), (fourth, third, second, first), (first, third, second, fourth)):
            self.assertIs(is_case_tree(THREE, 1, ("cases", 0, nodes)), nodes[0] == nodes[2] == first)
        # The tuple of the length 3 comes last, although (0, 1, 2) is before (0, 2).
        net = Net([[0, 1, 0], [1, 0, 0], [0, 0, 0]], [[0, 1, 2], [0, 1, 2]])
        word, tree = settle(net, 1)
        self.assertEqual(word, "lost")
        moved = (tree[2][0], tree[2][3], tree[2][1], tree[2][2])
        self.assertIs(is_case_tree(net, 1, ("cases", tree[1], moved)), False)

    def test_a_wrong_node_anywhere(self):
        net = Net.level(2, 0, [[0, 1], [0, 1]])
        for wrong in (("fault", (0,), 0, (1,)), ("fault", (0,), 1, (0,)), ("cases", 1, ()), ("cases", 0, (FAULT,))):
            self.assertIs(is_case_tree(net, 1, ("cases", 0, (wrong,))), False)
        for at in range(4):
            nodes = list(THREE_FAULTS)
            nodes[at] = ("fault", (0,), 1, (0,))
            self.assertIs(is_case_tree(THREE, 1, ("cases", 0, tuple(nodes))), False)

    def test_a_fault_at_the_root(self):
        for lot in ((), (0,), (0, 1)):
            self.assertIs(is_case_tree(TWO, 1, ("fault", (0,), 0, lot)), False)

    def test_the_lost_seats(self):
        net = Net.level(3, 0, [[0, 1, 2], [0, 1, 2]])

        def says(lost, at_once, seat=0):
            # With two seats lost at once only the tuple of all three is left.
            if at_once == 2:
                return is_case_tree(net, 2, ("cases", 0, (("fault", lost, seat, (0,)),)))
            return two(("fault", lost, seat, (0, 1)), Net.level(2, 0, [[0, 1], [0, 1]]), at_once)

        for lost in ((0,), (0, 1), (0, 2)):
            self.assertIs(says(lost, 2), True)
        self.assertIs(says((1, 2), 2, 1), True)
        # Too many, out of order, twice, not existing, without the seat, none.
        for lost in ((0, 1, 2), (1, 0), (2, 0), (0, 0), (0, 3), (-1, 0), (-3, 0), (0, GREAT), (1,), (1, 2), (), (3,)):
            self.assertIs(says(lost, 2), False)
        self.assertIs(says((0,), 1), True)
        for lost in ((0, 1), (1,), (), (0, 2), (-2,), (0, 0)):
            self.assertIs(says(lost, 1), False)
        for seat in (-1, 1, 2, 3, -3, GREAT):
            self.assertIs(says((0,), 2, seat), False)
        # All seats may be lost where so many may be lost at once.
        wide = Net.level(3, 9, [[0, 1], [0, 1, 2]])
        self.assertIs(is_case_tree(wide, 1, ("cases", 0, (("fault", (0, 1, 2), 0, (0,)),))), False)
        self.assertIs(is_case_tree(wide, 2, ("cases", 1, (("fault", (0, 1, 2), 0, (1,)),))), False)

    def test_seats_that_do_not_exist(self):
        # The seat -2 is no name for the seat 0.
        self.assertIs(two(("fault", (-2,), -2, (0, 1)), Net.level(2, 0, [[0, 1], [0, 1]])), False)
        self.assertIs(two(("fault", (2,), 2, (0, 1)), Net.level(2, 0, [[0, 1], [0, 1]])), False)

    def test_the_lot(self):
        self.assertIs(two(("fault", (0,), 0, (0, 1))), True)
        # Empty, out of order, twice, not existing, too small.
        for lot in ((), (1, 0), (0, 0), (0, 0, 1), (0, 1, 1), (0, 2), (0, 1, 2), (-1, 0, 1), (-2, -1), (0,), (1,)):
            self.assertIs(two(("fault", (0,), 0, lot)), False)
        net = Net.level(2, 0, [[0, 1], [0, 1], [0, 1]])
        for lot in ((0, 1, 2), (2,), (1, 2), (0, GREAT), (-3,), (-1,)):
            self.assertIs(two(("fault", (0,), 0, lot), net), False)
        # A piece that is settled, but without the seat in its tuple.
        net = Net.level(4, 0, [[0, 1], [2, 3]])
        self.assertIs(two(("fault", (0,), 0, (0,)), net), True)
        self.assertIs(two(("fault", (2,), 2, (1,)), net), True)
        for lot in ((0, 1), (1,)):
            self.assertIs(two(("fault", (0,), 0, lot), net), False)
        for lot in (tuple(range(10 ** 5)), (0,) * 10 ** 5):
            self.assertIs(two(("fault", (0,), 0, lot)), False)
            self.assertIs(two(("fault", lot, 0, (0, 1))), False)

    def test_the_sum(self):
        for cap, right in ((0, True), (1, True), (2, False), (3, False), (GREAT, False)):
            self.assertIs(two(("fault", (0,), 0, (0, 1)), Net.level(2, cap, [[0, 1], [0, 1]])), right)
        # The road to the seat counts, not the one from it, and each sender once.
        self.assertIs(two(("fault", (0,), 0, (0, 1)), Net([[0, 9], [1, 0]], [[0, 1], [0, 1]])), True)
        self.assertIs(two(("fault", (0,), 0, (0, 1)), Net([[0, 1], [9, 0]], [[0, 1], [0, 1]])), False)
        # The seat itself is lost and sends nothing.
        self.assertIs(two(("fault", (0,), 0, (0, 1)), Net([[9, 0], [1, 0]], [[0, 1], [0, 1]])), True)
        # Holders outside of the tuple do not count: seat 2 in the first case, which could send 9 pieces.
        faults = (FAULT, ("fault", (2,), 2, (0,)), ("fault", (1,), 1, (0,)), ("fault", (1,), 1, (0,)))
        for roads, right in (([[0] * 3, [0] * 3, [9, 0, 0]], True), ([[0] * 3, [1, 0, 0], [9, 0, 0]], False)):
            self.assertIs(is_case_tree(Net(roads, [[0, 1, 2]]), 1, ("cases", 0, faults)), right)
        # All that are lost send nothing: here 1 and 2 send one piece each.
        net = Net([[0, 0, 0], [1, 0, 0], [1, 0, 0]], [[0, 1, 2], [0, 1, 2]])
        for lost, right in (((0,), False), ((0, 1), True), ((0, 2), True)):
            tree = ("cases", 0, (("cases", 1, (("fault", lost, 0, (0, 1)),)),))
            self.assertIs(is_case_tree(net, 2, tree), right)

    def test_changed_trees(self):
        dice = random.Random(58)
        counts = {True: 0, False: 0}
        while sum(counts.values()) < 3000:
            net = random_net(dice, seats=4, pieces=3)
            at_once = dice.choice((1, 1, 2, 3))
            word, tree = settle(net, at_once)
            if word == "lost" and tree_size(tree) < 400:
                for _ in range(8):
                    changed = change(dice, tree)
                    wanted = fits_tree(net, at_once, changed)
                    self.assertIs(is_case_tree(net, at_once, changed), wanted)
                    counts[wanted] += 1
        self.assertGreater(min(counts.values()), 200)

    def test_settled_nets_have_no_tree(self):
        dice = random.Random(581)
        for _ in range(100):
            net = random_net(dice, seats=4, pieces=3, road=3)
            if settle(net, 1)[0] == "kept":
                _, tree = settle(Net.level(net.seats, 0, net.holders), 1)
                self.assertIs(net.pieces > 0 and is_case_tree(net, 1, tree), False)

    def test_time(self):
        net = Net.level(6, 0, [range(6)] * 8)
        # A piece with 6 holders has 57 sets of at least two of them.
        below = ("cases", 1, (FAULT,) * 57)
        self.assertLess(seconds(is_case_tree, net, 1, ("cases", 0, (below,) * 57)), 5)
        self.assertLess(seconds(is_case_tree, net, 1, ("cases", 0, (("cases", 1, (FAULT,) * 30000),) * 2)), 5)
        node = ("fault", (0,), 0, tuple(range(8)))
        for piece in range(7, -1, -1):
            node = ("cases", piece, (node,))
        self.assertIs(is_case_tree(Net.level(2, 1, [[0, 1]] * 8), 1, node), True)
        self.assertIs(is_case_tree(Net.level(2, 8, [[0, 1]] * 8), 1, node), False)


def change(dice, node):
    """The tree with one change somewhere, which may leave it right."""
    if node[0] == "cases" and node[2] and dice.randrange(3):
        at = dice.randrange(len(node[2]))
        return (node[0], node[1], node[2][:at] + (change(dice, node[2][at]),) + node[2][at + 1:])
    if node[0] == "cases":
        nodes = list(node[2])
        dice.choice((lambda: dice.shuffle(nodes), lambda: nodes.append(FAULT), lambda: nodes and nodes.pop()))()
        return dice.choice((("cases", node[1] + dice.choice((-1, 1)), node[2]), ("cases", node[1], tuple(nodes))))
    word, lost, seat, lot = node
    other = dice.randint(-1, 4)
    return dice.choice((
        (word, lost + (other,), seat, lot), (word, tuple(sorted({*lost, other})), seat, lot), (word, (other,), other, lot),
        (word, lost, other, lot), (word, lost, seat, lot + (other,)), (word, lost, seat, tuple(sorted({*lot, other}))),
        (word, lost, seat, lot[1:]), (word, lost[1:], seat, lot), (word, lost[::-1], seat, lot[::-1]),
    ))
