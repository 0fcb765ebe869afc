"""Points 53 to 56."""

import itertools
import random
import unittest

from choosing import all_back, all_choices, is_back, lasts, losses
from pairwarden.choices import count_fault, give_back, is_lasting, weak_seats
from pairwarden.errors import InvalidChoice
from pairwarden.nets import Net, after_losses
from samples import error_of, random_net, seconds

GREAT = 10 ** 40 - 1


def random_choice(dice, net):
    """A choice of the net; empty tuples come, but not often."""
    return [
        tuple(sorted(dice.sample(row, dice.randint(min(len(row), dice.choice((0, 1, 2, 2))), len(row)))))
        for row in net.holders
    ]


def first_weak(net, at_once):
    choice = list(net.holders)
    most = min(at_once, net.seats)
    return next((list(lost) for lost in losses(net, most) if not is_back(net, choice, lost)), None)


def first_fault(choice, seats, cap, at_once):
    """Point 56 word by word."""
    for seat in range(seats):
        rest = [other for other in range(seats) if other != seat]
        groups = [group for many in range(seats) for group in itertools.combinations(rest, many)]
        for others in groups:
            inside = [row for row in choice if seat in row and set(row) - {seat} <= set(others)]
            if len(inside) > cap * max(0, len(others) - at_once + 1):
                return (seat, others)
    return None


def greatest_nets():
    """Nets of 6 seats and 8 pieces, with roads of 40 digits and small ones."""
    dice = random.Random(55)
    rows = [[dice.sample(range(6), many) for _ in range(8)] for many in (6, 4, 2)]
    nets = []
    for holders in rows:
        for cap in (0, 1, 2, GREAT):
            nets.append(Net.level(6, cap, holders))
        nets.append(Net([[dice.choice((GREAT, 1, 2, 3)) for _ in range(6)] for _ in range(6)], holders))
    return nets


class TestGiveBack(unittest.TestCase):
    def test_example(self):
        net = Net.level(3, 1, [[0, 1, 2]])
        self.assertEqual(give_back(net, [(0, 1, 2)], [0, 1]), [(0, 2, 0), (0, 2, 1)])

    def test_ordinary(self):
        net = Net.level(3, 1, [[0, 1, 2], [0, 1]])
        self.assertEqual(give_back(net, [(0, 1, 2), (0, 1)], [0]), [(0, 2, 0), (1, 1, 0)])
        self.assertEqual(give_back(net, [(0, 2), (0, 1)], [2]), [(0, 0, 2)])
        self.assertIsNone(give_back(net, [(0, 1), (0, 1)], [0]))
        self.assertEqual(give_back(net, [(0, 1), (0, 1)], [2]), [])
        self.assertEqual(give_back(net, [(0, 1), (0, 1)], []), [])
        self.assertIsNone(give_back(net, [(0, 1, 2), (0, 1)], [0, 1]))
        self.assertIsNone(give_back(net, [(0, 1, 2), (0, 1)], [0, 1, 2]))

    def test_only_the_tuple_counts(self):
        # Seat 2 holds piece 0 and could send it, but it is not in the tuple.
        net = Net([[0, 0, 0], [0, 0, 0], [1, 1, 0]], [[0, 1, 2]])
        self.assertIsNone(give_back(net, [(0, 1)], [0]))
        self.assertEqual(give_back(net, [(0, 2)], [0]), [(0, 2, 0)])
        self.assertEqual(give_back(net, [(0, 1)], [2]), [])
        self.assertEqual(give_back(net, [(1,)], [0, 2]), [])
        self.assertIsNone(give_back(net, [(1,)], [1]))

    def test_the_ways_of_the_roads(self):
        net = Net([[0, 0, 3], [1, 0, 2], [0, 2, 0]], [[0, 1], [0, 1, 2], [0, 1]])
        self.assertEqual(give_back(net, [(0, 1), (1, 2), (1,)], [0]), [(0, 1, 0)])
        self.assertIsNone(give_back(net, [(0, 1), (1, 2), (0, 1)], [0]))
        self.assertIsNone(give_back(net, [(0, 1), (0, 2), (1,)], [0]))
        self.assertEqual(give_back(net, [(0,), (1, 2), (1,)], [2]), [(1, 1, 2)])

    def test_a_sender_makes_way(self):
        # Piece 0 has two senders, and piece 1 only the first of them.
        net = Net.level(3, 1, [[0, 1, 2], [0, 1]])
        self.assertEqual(give_back(net, [(0, 1, 2), (0, 1)], [0]), [(0, 2, 0), (1, 1, 0)])
        net = Net.level(4, 1, [[0, 1, 2, 3], [0, 1, 2], [0, 1]])
        self.assertEqual(give_back(net, [(0, 1, 2, 3), (0, 1, 2), (0, 1)], [0]), [(0, 3, 0), (1, 2, 0), (2, 1, 0)])

    def test_empty_tuples(self):
        net = Net.level(2, 9, [[0, 1], [0, 1]])
        for lost in ([], [0], [1], [0, 1]):
            self.assertIsNone(give_back(net, [(0, 1), ()], lost))
            self.assertIsNone(give_back(net, [(), ()], lost))
        self.assertIsNone(give_back(Net.level(1, 1, [[]]), [()], []))
        self.assertEqual(give_back(Net.level(1, 1, []), [], [0]), [])

    def test_against_all_lists_of_sends(self):
        dice = random.Random(53)
        found = set()
        for _ in range(500):
            net = random_net(dice, pieces=4)
            choice = random_choice(dice, net)
            for lost in [lost for many in range(net.seats + 1) for lost in losses(net, many)]:
                kept = list(choice)
                sends = give_back(net, choice, list(lost))
                self.assertEqual(choice, kept)
                found.add(sends is None)
                if not is_back(net, choice, lost):
                    self.assertIsNone(sends)
                else:
                    self.assertIn(sends, all_back(net, choice, lost))
                    after = after_losses(net, list(lost), sends)
                    self.assertTrue(all(set(row) <= set(now) for row, now in zip(choice, after.holders)))
        self.assertEqual(found, {True, False})

    def test_new_lists(self):
        net = Net.level(3, 1, [[0, 1, 2]])
        choice, lost = [(0, 1, 2)], [0, 1]
        give_back(net, choice, lost).clear()
        self.assertEqual(give_back(net, choice, lost), [(0, 2, 0), (0, 2, 1)])
        self.assertEqual([choice, lost, net.holders], [[(0, 1, 2)], [0, 1], ((0, 1, 2),)])


class TestInvalid(unittest.TestCase):
    def test_wrong_choices(self):
        net = Net.level(4, 1, [[0, 1, 2], [1, 3], []])
        for choice, piece in (
            ([], None), ([(0, 1)], None), ([(0, 1), (1, 3)], None), ([(0, 1), (1, 3), (), ()], None),
            ([(9,), (9,)], None),
            ([(1, 0), (1, 3), ()], 0), ([(0, 0), (1, 3), ()], 0), ([(0, 1, 1), (1, 3), ()], 0),
            ([(0, 3), (1, 3), ()], 0), ([(0, 4), (1, 3), ()], 0), ([(-1, 0), (1, 3), ()], 0), ([(-1,), (), ()], 0),
            ([(0, 2, 1), (1, 3), ()], 0), ([(GREAT,), (), ()], 0),
            ([(0, 1), (0, 1), ()], 1), ([(), (3, 1), ()], 1), ([(0, 1, 2), (1, 3), (0,)], 2),
            ([(0, 1, 2), (2,), (0,)], 1), ([(0, 1, 2), (1, 3), (1, 0)], 2),
        ):
            kept = list(choice)
            for lost in ([], [0], [0, 1, 2, 3]):
                self.assertEqual(error_of(InvalidChoice, give_back, net, choice, lost).piece, piece)
            for at_once in (1, 9):
                self.assertEqual(error_of(InvalidChoice, is_lasting, net, choice, at_once).piece, piece)
            self.assertEqual(choice, kept)
        self.assertIsNone(error_of(InvalidChoice, is_lasting, Net.level(1, 1, []), [()], 1).piece)

    def test_choices_with_empty_tuples_are_not_wrong(self):
        net = Net.level(4, 1, [[0, 1, 2], [1, 3], []])
        for choice in ([(), (), ()], [(0, 2), (3,), ()]):
            self.assertIsNone(give_back(net, choice, []))
            self.assertIs(is_lasting(net, choice, 1), False)


class TestLasting(unittest.TestCase):
    def test_ordinary(self):
        net = Net.level(3, 1, [[0, 1, 2], [0, 1]])
        self.assertIs(is_lasting(net, [(0, 2), (0, 1)], 1), True)
        self.assertIs(is_lasting(net, [(0, 1), (0, 1)], 1), False)
        self.assertIs(is_lasting(net, [(0, 1, 2), (0, 1)], 1), True)
        self.assertIs(is_lasting(net, [(0, 2), (0, 1)], 2), False)
        self.assertIs(is_lasting(net, [(0, 2), ()], 1), False)
        self.assertIs(is_lasting(Net.level(3, 1, [[0, 1, 2]]), [(0, 1, 2)], 2), True)
        self.assertIs(is_lasting(Net.level(3, 0, [[0, 1, 2]]), [(0, 1, 2)], 1), False)
        self.assertIs(is_lasting(Net.level(3, 1, [[0, 1, 2]]), [(1,)], 1), False)

    def test_more_at_once_than_seats(self):
        for at_once in (3, 4, 100, GREAT):
            self.assertIs(is_lasting(Net.level(3, 1, [[0, 1, 2]]), [(0, 1, 2)], at_once), False)
            self.assertIs(is_lasting(Net.level(3, 1, []), [], at_once), True)
            self.assertEqual(weak_seats(Net.level(3, 1, [[0, 1, 2]]), at_once), [0, 1, 2])
            self.assertIsNone(weak_seats(Net.level(3, 1, []), at_once))

    def test_against_all_losses(self):
        dice = random.Random(54)
        found = []
        for _ in range(400):
            net = random_net(dice, road=3)
            for choice in [random_choice(dice, net), list(net.holders)]:
                for at_once in (1, 2, 3, 5):
                    wanted = lasts(net, choice, at_once)
                    self.assertIs(is_lasting(net, choice, at_once), wanted)
                    found.append((wanted and net.pieces > 0, at_once))
        self.assertLessEqual({(True, 1), (True, 2), (True, 3), (False, 1)}, set(found))

    def test_weak_seats(self):
        self.assertEqual(weak_seats(Net.level(3, 1, [[0, 1, 2], [1, 2]]), 1), None)
        self.assertEqual(weak_seats(Net.level(3, 1, [[1, 2], [1, 2]]), 1), [1])
        self.assertEqual(weak_seats(Net.level(3, 9, [[0, 1, 2], [1, 2]]), 2), [1, 2])
        self.assertEqual(weak_seats(Net.level(3, 9, [[0, 1, 2], []]), 1), [0])
        self.assertEqual(weak_seats(Net.level(3, 9, [[0, 1, 2], []]), 2), [0, 1])
        self.assertEqual(weak_seats(Net.level(1, 9, [[0]]), 1), [0])
        dice = random.Random(551)
        found = set()
        for _ in range(500):
            net = random_net(dice, road=3)
            for at_once in (1, 2, 3, 5):
                wanted = first_weak(net, at_once)
                self.assertEqual(weak_seats(net, at_once), wanted)
                found.add(tuple(wanted) if wanted else wanted)
        self.assertLessEqual({None, (0,), (1,), (0, 1), (1, 2), (0, 1, 2)}, found)

    def test_the_foe_wins_without_a_lasting_choice(self):
        dice = random.Random(552)
        played = 0
        for _ in range(300):
            net = random_net(dice, seats=3, pieces=2)
            at_once = dice.choice((1, 1, 2))
            while () not in net.holders and not any(lasts(net, choice, at_once) for choice in all_choices(net)):
                lost = weak_seats(net, at_once)
                self.assertIsNotNone(lost)
                sends = []
                for step in itertools.product(range(net.pieces), range(net.seats), lost):
                    piece, sender, seat = step
                    if (
                        seat in net.holders[piece] and sender in net.holders[piece] and sender not in lost
                        and (piece, seat) not in [(one, to) for one, _, to in sends]
                        and [(by, to) for _, by, to in sends].count((sender, seat)) < net.roads[sender][seat]
                        and dice.randrange(8)
                    ):
                        sends.append(step)
                after = after_losses(net, lost, sends)
                self.assertLess(sum(map(len, after.holders)), sum(map(len, net.holders)))
                self.assertFalse(any(lasts(after, choice, at_once) for choice in all_choices(after)))
                net, played = after, played + 1
        self.assertGreater(played, 50)

    def test_time(self):
        for net in greatest_nets():
            choice = list(net.holders)
            for at_once in range(1, 8):
                self.assertLess(seconds(is_lasting, net, choice, at_once), 1)
                self.assertLess(seconds(weak_seats, net, at_once), 1)
            for many in range(7):
                self.assertLess(seconds(give_back, net, choice, list(range(many))), 1)


class TestCountFault(unittest.TestCase):
    def test_example(self):
        self.assertEqual(count_fault([(0, 1), (0, 1)], 2, 1, 1), (0, (1,)))

    def test_ordinary(self):
        self.assertIsNone(count_fault([], 1, 0, 1))
        self.assertIsNone(count_fault([(0, 1), (0, 2), (1, 2)], 3, 1, 1))
        self.assertEqual(count_fault([(0,)], 2, 5, 1), (0, ()))
        self.assertEqual(count_fault([(1,)], 2, 5, 1), (1, ()))
        self.assertEqual(count_fault([(1, 2), (1, 2)], 3, 1, 1), (1, (2,)))
        self.assertEqual(count_fault([(0, 1, 2)], 3, 1, 3), (0, (1, 2)))
        self.assertIsNone(count_fault([(0, 1, 2)], 3, 1, 2))
        self.assertEqual(count_fault([(0, 1, 2)], 3, 0, 1), (0, (1, 2)))
        self.assertEqual(count_fault([(0, 1, 2)] * 3, 3, 1, 1), (0, (1, 2)))
        self.assertIsNone(count_fault([(0, 1, 2)] * 2, 3, 1, 1))
        self.assertEqual(count_fault([(0, 3), (0, 1, 2), (0, 1, 2), (0, 1, 2)], 4, 1, 1), (0, (1, 2)))
        self.assertIsNone(count_fault([(0, 1)] * 8, 6, GREAT, 1))
        self.assertEqual(count_fault([(0, 1)], 2, GREAT, GREAT), (0, (1,)))

    def test_shorter_tuples_come_first(self):
        # The two pieces of (0, 4) come before the three of (0, 1, 2), though 1 is below 4.
        self.assertEqual(count_fault([(0, 1, 2)] * 3 + [(0, 4)] * 2, 5, 1, 1), (0, (4,)))
        self.assertEqual(count_fault([(1, 2)] * 2 + [(0, 1, 2, 3)], 5, 1, 1), (1, (2,)))

    def check(self, choice, seats, cap, at_once):
        kept = list(choice)
        fault = count_fault(choice, seats, cap, at_once)
        self.assertEqual(fault, first_fault(choice, seats, cap, at_once))
        self.assertEqual(choice, kept)
        net = Net.level(seats, cap, [list(row) for row in choice])
        self.assertIs(is_lasting(net, choice, at_once), fault is None)
        if fault is None and seats > at_once:
            self.assertLessEqual(len(choice), cap * seats * (seats - at_once) // (at_once + 1))

    def test_against_counting_and_lasting(self):
        dice = random.Random(56)
        for _ in range(800):
            seats = dice.randint(1, 5)
            choice = []
            for _ in range(dice.randint(0, 6)):
                choice.append(tuple(sorted(dice.sample(range(seats), dice.randint(min(2, seats), seats)))))
            self.check(choice, seats, dice.choice((0, 1, 1, 2, GREAT)), dice.choice((1, 1, 2, 3, 7)))

    def test_all_choices_of_three_seats(self):
        rows = [group for many in (1, 2, 3) for group in itertools.combinations(range(3), many)]
        for many in range(4):
            for choice in itertools.combinations_with_replacement(rows, many):
                for cap, at_once in itertools.product((0, 1, 2), (1, 2, 3)):
                    self.check(list(choice), 3, cap, at_once)

    def test_time(self):
        dice = random.Random(561)
        for cap, at_once in itertools.product((0, 1, 2, GREAT), range(1, 8)):
            choice = [tuple(sorted(dice.sample(range(6), dice.randint(2, 6)))) for _ in range(8)]
            self.assertLess(seconds(count_fault, choice, 6, cap, at_once), 1)
            self.assertLess(seconds(count_fault, [tuple(range(6))] * 8, 6, cap, at_once), 1)
