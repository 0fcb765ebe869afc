"""Points 51 and 52."""

import itertools
import random
import unittest

from pairwarden.errors import InvalidPool, InvalidSends
from pairwarden.nets import Net, after_losses
from samples import error_of, random_net, seconds

GREAT = 10 ** 40 - 1
NET = Net(
    [[9, 1, 2, 0], [1, 9, 1, 1], [0, 2, 9, 1], [3, 1, 0, 9]],
    [[0, 1, 2, 3], [0, 1, 2], [0, 2], [1], [], [0, 1, 3]],
)


def fault(roads, holders):
    return error_of(InvalidPool, Net, roads, holders).piece


def state(net):
    return [net.roads, net.holders, net.seats, net.pieces]


def wrong_send(net, lost, sends):
    before, kept = state(net), [list(lost), list(sends)]
    at = error_of(InvalidSends, after_losses, net, lost, sends).at
    assert state(net) == before and [list(lost), list(sends)] == kept
    return at


def by_the_words(net, lost, sends):
    """The index of the first send that breaks a rule of point 52, or None."""
    for at, (piece, sender, seat) in enumerate(sends):
        good = (
            seat in lost and piece in range(net.pieces) and seat in net.holders[piece]
            and sender not in lost and sender in net.holders[piece]
            and (piece, seat) not in [(other, to) for other, _, to in sends[:at]]
            and [(by, to) for _, by, to in sends[:at]].count((sender, seat)) < net.roads[sender][seat]
        )
        if not good:
            return at
    return None


class TestNet(unittest.TestCase):
    def test_lists_and_tuples(self):
        for roads, holders in itertools.product(
            ([[0, 1], [GREAT, 3]], ((0, 1), (GREAT, 3)), [(0, 1), [GREAT, 3]], ([0, 1], (GREAT, 3))),
            ([[1, 0], []], ((1, 0), ()), [(0, 1), []]),
        ):
            net = Net(roads, holders)
            self.assertEqual(state(net), [((0, 1), (GREAT, 3)), ((0, 1), ()), 2, 2])
            self.assertTrue(all(isinstance(row, tuple) for row in (net.roads, net.holders) + net.roads + net.holders))

    def test_least_nets(self):
        self.assertEqual(state(Net([[0]], [])), [((0,),), (), 1, 0])
        self.assertEqual(state(Net(((5,),), ((0,), ()))), [((5,),), ((0,), ()), 1, 2])

    def test_later_changes_have_no_effect(self):
        roads, holders = [[0, 1], [2, 3]], [[1, 0], [1]]
        net = Net(roads, holders)
        self.assertEqual([roads, holders], [[[0, 1], [2, 3]], [[1, 0], [1]]])
        roads[0][1] = 7
        roads.append([])
        holders[1].clear()
        holders.append([5])
        self.assertEqual(state(net), [((0, 1), (2, 3)), ((0, 1), (1,)), 2, 2])

    def test_no_seats(self):
        for roads in ([], ()):
            for holders in ([], [[]], [[0]]):
                self.assertIsNone(fault(roads, holders))

    def test_lists_of_a_wrong_length(self):
        for roads in (
            [[]], [[0, 0]], [[0, 1], [2]], [[0], [1, 2]], [[0, 1], [2, 3, 4]], [[0, 1, 2], [3, 4]], [[], [0, 1]],
            [[0, 1], []], [[0, 1, 2], [3, 4, 5]], [[0], [1]], [[0, 1]],
        ):
            for holders in ([], [[0, 0]], [[9]]):
                self.assertIsNone(fault(roads, holders))

    def test_numbers_below_0(self):
        for first, second in itertools.product(range(3), repeat=2):
            roads = [[1] * 3 for _ in range(3)]
            roads[first][second] = -1
            self.assertIsNone(fault(roads, []))
            self.assertIsNone(fault(roads, [[0, 0]]))
        self.assertIsNone(fault([[-GREAT]], []))

    def test_wrong_pieces(self):
        roads = [[1, 1], [1, 1]]
        for holders, piece in (
            ([[2]], 0), ([[-1]], 0), ([[0, 0]], 0), ([[0, 1], [1, 0, 1]], 1), ([[], [0], [0, 2], [7, 7]], 2),
            (((1, 0), (1, 1), (2,)), 1), ([[0, 1], [GREAT]], 1),
        ):
            self.assertEqual(fault(roads, holders), piece)


class TestLevel(unittest.TestCase):
    def test_all_roads_are_equal(self):
        net = Net.level(3, 2, [[2, 0], [1]])
        self.assertIsInstance(net, Net)
        self.assertEqual(state(net), [((2, 2, 2),) * 3, ((0, 2), (1,)), 3, 2])
        self.assertEqual(state(Net.level(1, 0, [])), [((0,),), (), 1, 0])
        self.assertEqual(state(Net.level(6, GREAT, ((0, 5),))), [((GREAT,) * 6,) * 6, ((0, 5),), 6, 1])

    def test_faults(self):
        for seats, cap, holders, piece in (
            (0, 1, [], None), (0, 1, [[0]], None), (0, -1, [], None), (2, -1, [[0, 0]], None), (1, -GREAT, [], None),
            (2, 1, [[0, 1], [2]], 1), (2, 0, [[1, 1]], 0), (2, 0, [[-1]], 0), (-1, 1, [], None),
        ):
            self.assertEqual(error_of(InvalidPool, Net.level, seats, cap, holders).piece, piece)

    def test_later_changes_have_no_effect(self):
        holders = [[1, 0]]
        net = Net.level(2, 1, holders)
        holders[0].clear()
        self.assertEqual(net.holders, ((0, 1),))


class TestLosses(unittest.TestCase):
    def test_no_lost_seat(self):
        after = after_losses(NET, [], [])
        self.assertIsInstance(after, Net)
        self.assertEqual(state(after), state(NET))
        self.assertEqual(wrong_send(NET, [], [(0, 1, 0)]), 0)

    def test_one_lost_seat(self):
        self.assertEqual(after_losses(NET, [1], []).holders, ((0, 2, 3), (0, 2), (0, 2), (), (), (0, 3)))
        sends = [(0, 2, 1), (5, 0, 1), (1, 2, 1)]
        wanted = ((0, 1, 2, 3), (0, 1, 2), (0, 2), (), (), (0, 1, 3))
        self.assertEqual(after_losses(NET, [1], sends).holders, wanted)
        self.assertEqual(after_losses(NET, [1], tuple(sends)).holders, wanted)

    def test_several_lost_seats(self):
        after = after_losses(NET, [0, 1], [(0, 2, 1), (0, 3, 0), (1, 2, 1), (5, 3, 1)])
        self.assertEqual(state(after), [NET.roads, ((0, 1, 2, 3), (1, 2), (2,), (), (), (1, 3)), 4, 6])
        self.assertEqual(after_losses(NET, [0, 1, 2, 3], []).holders, ((),) * 6)
        # Each road has its own number, from the same sender too.
        net = Net([[0, 0, 0], [0, 0, 0], [1, 2, 0]], [[0, 1, 2]] * 3)
        sends = [(0, 2, 1), (0, 2, 0), (1, 2, 1)]
        self.assertEqual(after_losses(net, [0, 1], sends).holders, ((0, 1, 2), (1, 2), (2,)))
        self.assertEqual(wrong_send(net, [0, 1], sends + [(2, 2, 1)]), 3)
        self.assertEqual(wrong_send(net, [0, 1], sends + [(2, 2, 0)]), 3)

    def test_each_rule(self):
        lost = [0, 1]
        good = [(0, 3, 0), (0, 2, 1)]
        for before in ([], good[:1], good):
            for wrong in (
                (0, 3, 2), (0, 2, 3),                           # the seat is not lost
                (2, 2, 1), (4, 2, 1),                           # it did not hold the piece
                (5, 0, 1), (1, 1, 0), (5, 1, 0), (3, 1, 1),     # the sender is lost
                (1, 3, 0), (5, 2, 1),                           # it does not hold the piece
                (1, 2, 0),                                      # the road has the number 0
                (6, 2, 1), (-1, 3, 1), (-6, 2, 1), (GREAT, 2, 1), (-1, -1, -1),
                (1, 4, 1), (1, -2, 1), (5, -1, 1), (1, GREAT, 1),
                (1, 2, 4), (1, 2, -3), (5, 3, -4), (1, 2, GREAT),
            ):
                self.assertEqual(wrong_send(NET, lost, before + [wrong]), len(before))
                self.assertEqual(wrong_send(NET, lost, before + [wrong, (8, 8, 8)]), len(before))
                self.assertEqual(wrong_send(NET, lost, tuple(before + [wrong])), len(before))

    def test_a_piece_twice_to_the_same_seat(self):
        net = Net.level(4, 5, [[0, 1, 2, 3]] * 2)
        self.assertEqual(wrong_send(net, [0, 1], [(0, 2, 0), (0, 3, 1), (0, 3, 0)]), 2)
        self.assertEqual(wrong_send(net, [0, 1], [(0, 2, 0), (1, 2, 0), (0, 2, 0)]), 2)
        after = after_losses(net, [0, 1], [(0, 2, 0), (0, 2, 1), (1, 2, 0), (1, 3, 1)])
        self.assertEqual(after.holders, ((0, 1, 2, 3),) * 2)

    def test_against_the_words(self):
        dice = random.Random(52)
        found = set()
        for _ in range(1500):
            net = random_net(dice)
            lost = sorted(dice.sample(range(net.seats), dice.randint(0, net.seats)))
            steps = [
                (piece, sender, seat) for piece in range(-1, net.pieces + 1) for sender in range(-1, net.seats + 1)
                for seat in range(-1, net.seats + 1)
            ]
            good = [step for step in steps if by_the_words(net, lost, [step]) is None]
            sends = dice.choices(good, k=dice.randint(0, 4)) if good else []
            sends += dice.choices(steps, k=dice.choice((0, 0, 1)))
            at = by_the_words(net, lost, sends)
            found.add(at)
            if at is not None:
                self.assertEqual(wrong_send(net, lost, sends), at)
                continue
            before = state(net)
            after = after_losses(net, lost, sends)
            wanted = tuple(
                tuple(seat for seat in row if seat not in lost or (piece, seat) in [(one, to) for one, _, to in sends])
                for piece, row in enumerate(net.holders)
            )
            self.assertEqual(state(after), [net.roads, wanted, net.seats, net.pieces])
            self.assertEqual(state(net), before)
        self.assertLessEqual({None, 0, 1, 2, 3}, found)

    def test_time(self):
        net = Net.level(6, GREAT, [range(6)] * 8)
        sends = [(piece, sender, seat) for piece in range(8) for seat in range(5) for sender in (5,)]
        self.assertLess(seconds(after_losses, net, [0, 1, 2, 3, 4], sends), 1)
        self.assertLess(seconds(Net.level, 6, GREAT, [range(6)] * 8), 1)
