"""Points 60 to 64."""

import itertools
import random
import unittest

import counting
from pairwarden.dealer import is_safe, most_dealt
from pairwarden.deeds import apply_deed, loss_deed
from pairwarden.plans import Quote, cheapest_plan, copies_to_add, is_quote, retirement
from pairwarden.pool import Pool
from samples import many_pools, seconds

GREAT = 10 ** 60 - 1


def open_pairs(pool, without):
    """The pairs with room that have none of these seats."""
    pairs = itertools.combinations(range(pool.seats), 2)
    return [pair for pair in pairs if counting.room_of(pool, pair) and not set(pair) & set(without)]


def all_plans(pool, without=()):
    """All full plans of a small pool."""
    plans = itertools.product(open_pairs(pool, without), repeat=pool.pieces)
    return [plan for plan in plans if all(plan.count(pair) <= counting.room_of(pool, pair) for pair in plan)]


def cost_of(pool, plan):
    return sum(len(set(pair) - set(pool.holders[piece])) for piece, pair in enumerate(plan))


def least_cost(pool, without=()):
    return min([cost_of(pool, plan) for plan in all_plans(pool, without)], default=None)


def is_right(pool, quote, without=()):
    """Whether a quote is as points 61 and 62 say, word by word."""
    pairs = open_pairs(pool, without)
    if len(quote.plan) != pool.pieces or len(quote.piece_prices) != pool.pieces:
        return False
    if any(pair not in pairs or quote.plan.count(pair) > counting.room_of(pool, pair) for pair in quote.plan):
        return False
    if quote.cost != cost_of(pool, quote.plan) or [row[0] for row in quote.pair_prices] != pairs:
        return False
    places = 0
    for pair, price in quote.pair_prices:
        places += price * counting.room_of(pool, pair)
        if price < 0:
            return False
        for piece, row in enumerate(pool.holders):
            if quote.piece_prices[piece] > price + len(set(pair) - set(row)):
                return False
    return sum(quote.piece_prices) - places == quote.cost


def parts(quote):
    return [quote.cost, quote.plan, quote.piece_prices, quote.pair_prices]


def lefts(dice, pool):
    """No seat, some seats and all seats, in any order."""
    seats = dice.sample(range(pool.seats), pool.seats)
    return [(), tuple(seats[:1]), tuple(seats[:dice.randint(0, pool.seats)]), tuple(seats)]


def with_copies(pool, copies):
    rows = [list(row) for row in pool.holders]
    for piece, seat in copies:
        rows[piece].append(seat)
    return Pool(pool.caps, rows)


def large_pools():
    """Pools of 8 seats and 20 pieces, with much room, little room and none to spare."""
    dice = random.Random(60)
    pools = []
    for caps in ([GREAT] * 8, [1] * 8, [0, 1, 2, 3, 4, 5, 6, GREAT], [GREAT - at for at in range(8)], [0] * 3 + [2] * 5):
        for low, high in ((0, 8), (0, 2), (2, 3), (0, 0), (8, 8)):
            holders = [dice.sample(range(8), dice.randint(low, high)) for _ in range(20)]
            pools.append(Pool(caps, holders))
    # Everybody wants the same pairs, and each of the 20 places is needed.
    pools.append(Pool([2] * 5 + [0] * 3, [[0, 1]] * 20))
    pools.append(Pool([2] * 5 + [0] * 3, [[at % 5, (at + 1) % 5] for at in range(20)]))
    pools.append(Pool([20, 20, 0, 0, 0, 0, 0, 0], [[at % 8] for at in range(20)]))
    pools.append(Pool([1] * 8, [[at % 2, 2] for at in range(20)]))
    return pools


class TestPlans(unittest.TestCase):
    def test_ordinary(self):
        quote = cheapest_plan(Pool([1, 1, 1], [[0], [0, 1]]))
        self.assertEqual([quote.cost, quote.plan], [1, ((0, 2), (0, 1))])
        self.assertEqual([pair for pair, _ in quote.pair_prices], [(0, 1), (0, 2), (1, 2)])
        quote = cheapest_plan(Pool([1, 1, 1], [[]]))
        self.assertEqual([quote.cost, quote.piece_prices], [2, (2,)])
        self.assertEqual([price for _, price in quote.pair_prices], [0, 0, 0])
        self.assertEqual(parts(cheapest_plan(Pool([0], []))), [0, (), (), ()])
        self.assertEqual(parts(cheapest_plan(Pool([1, 1], []))), [0, (), (), (((0, 1), 0),)])
        self.assertEqual(parts(cheapest_plan(Pool([1, 1], []), without=(1,))), [0, (), (), ()])
        self.assertIsNone(cheapest_plan(Pool([1], [[0]])))
        self.assertIsNone(cheapest_plan(Pool([1, 1], [[0, 1], [0, 1]])))
        self.assertIsNone(cheapest_plan(Pool([0, 9], [[0, 1]])))
        self.assertIsNone(cheapest_plan(Pool([9, 9, 9], [[0, 1]]), without=(0, 2)))
        self.assertEqual(cheapest_plan(Pool([9, 9, 9], [[0, 1]]), without=(0,)).cost, 1)

    def test_all_places_taken(self):
        # No pair has a free place, so the prices may not be counted from one.
        for pool in (
            Pool([1, 1, 1], [[0, 1]] * 3), Pool([2, 2], [[0, 1], []]), Pool([2, 2, 0], [[0, 2], [2]]),
            Pool([1, 1, 1], [[1, 2], [], [1, 2]]), Pool([1, 1, 1, 1], [[2, 3]] * 6), Pool([3, 2, 1], [[2]] * 4),
        ):
            quote = cheapest_plan(pool)
            self.assertTrue(is_right(pool, quote))
            self.assertIs(is_quote(pool, quote), True)
            self.assertEqual(quote.cost, least_cost(pool))

    def check(self, pool, without):
        quote = cheapest_plan(pool, without=without)
        wanted = least_cost(pool, without)
        rooms = sum(counting.room_of(pool, pair) for pair in open_pairs(pool, without))
        self.assertEqual(wanted is None, pool.pieces > rooms)
        if wanted is None:
            self.assertIsNone(quote)
            self.assertIsNone(copies_to_add(pool, without=without))
            return
        self.assertIsInstance(quote, Quote)
        self.assertIs(is_quote(pool, quote, without=without), True)
        self.assertTrue(is_right(pool, quote, without))
        self.assertEqual(quote.cost, wanted)
        self.assertTrue(all(isinstance(row, tuple) for row in parts(quote)[1:]))
        self.assertTrue(all(isinstance(row, tuple) for row in quote.plan + quote.pair_prices))
        copies = copies_to_add(pool, without=without)
        self.assertEqual(len(copies), wanted)
        self.assertEqual(copies, sorted(set(copies)))
        self.assertTrue(all(seat not in pool.holders[piece] and seat not in without for piece, seat in copies))

    def test_against_all_plans(self):
        dice = random.Random(61)
        for pool in many_pools(250, 61, pieces=4) + many_pools(150, 611, seats=4, pieces=5, cap=1):
            for without in lefts(dice, pool):
                self.check(pool, without)
        for pool in many_pools(60, 612, seats=3, pieces=5, cap=GREAT):
            for without in lefts(dice, pool):
                self.check(pool, without)

    def test_arguments_do_not_change(self):
        pool = Pool([1, 1, 1], [[0], [0, 1]])
        copies_to_add(pool).clear()
        self.assertEqual([copies_to_add(pool), pool.holders, pool.caps], [[(0, 2)], ((0,), (0, 1)), (1, 1, 1)])
        retirement(Pool([1, 1, 1], [[0, 1]]), 0).clear()
        self.assertEqual(len(retirement(Pool([1, 1, 1], [[0, 1]]), 0)), 3)

    def test_time(self):
        for pool in large_pools():
            for without in ((), (0,), (7, 3), tuple(range(8))):
                self.assertLess(seconds(cheapest_plan, pool, without=without), 1)
                self.assertLess(seconds(copies_to_add, pool, without=without), 1)
                quote = cheapest_plan(pool, without=without)
                rooms = sum(counting.room_of(pool, pair) for pair in open_pairs(pool, without))
                self.assertEqual(quote is None, rooms < 20)
                if quote is not None:
                    self.assertTrue(is_right(pool, quote, without))
                    self.assertIs(is_quote(pool, quote, without=without), True)
                    self.assertLess(seconds(is_quote, pool, quote, without=without), 1)
            self.assertLess(seconds(retirement, pool, 0), 1)


class TestQuotes(unittest.TestCase):
    def setUp(self):
        self.pool = Pool([1, 2, 2, 0], [[0, 1, 3], [0, 1], [1]])
        self.plan = ((0, 1), (1, 2), (1, 2))
        self.prices = (((0, 1), 1), ((0, 2), 0), ((1, 2), 0))

    def says(self, pool=None, without=(), **changed):
        given = {"cost": 2, "plan": self.plan, "piece_prices": (1, 1, 1), "pair_prices": self.prices}
        quote = Quote(**{**given, **changed})
        pool = pool or self.pool
        self.assertIs(is_quote(pool, quote, without=without), is_right(pool, quote, without))
        return is_quote(pool, quote, without=without)

    def test_right_quotes(self):
        self.assertIs(self.says(), True)
        self.assertIs(is_quote(self.pool, Quote(2, self.plan, (1, 1, 1), self.prices)), True)
        other = ((1, 2), (0, 1), (1, 2))
        self.assertIs(self.says(plan=other), True)
        self.assertIs(is_quote(Pool([0], []), Quote(0, (), (), ())), True)

    def test_other_prices_of_the_same_plan(self):
        pool = Pool([1, 1], [[0]])
        for price in (0, 1, 7, 10 ** 40 - 1):
            quote = Quote(1, [(0, 1)], [1 + price], [((0, 1), price)])
            self.assertIs(is_quote(pool, quote), True)

    def test_the_cost(self):
        for cost in (0, 1, 3, -2, GREAT):
            self.assertIs(self.says(cost=cost), False)
        # Not even where the prices show this cost.
        pool = Pool([9, 9], [[0]])
        self.assertIs(self.says(pool, cost=1, plan=((0, 1),), piece_prices=(1,), pair_prices=(((0, 1), 0),)), True)
        self.assertIs(self.says(pool, cost=0, plan=((0, 1),), piece_prices=(0,), pair_prices=(((0, 1), 0),)), False)

    def test_the_plan(self):
        for plan in (
            (), self.plan[:2], self.plan + ((1, 2),), ((1, 0), (1, 2), (1, 2)), ((0, 1), (1, 2), (2, 1)),
            ((0, 1), (1, 2), (1, 1)), ((0, 1), (1, 2), (1, 3)), ((0, 1), (1, 2), (1, 4)), ((0, 1), (1, 2), (-3, 2)),
            ((0, 1), (1, 2), (1, -2)), ((0, 1), (0, 1), (1, 2)), ((1, 2), (1, 2), (1, 2)), ((GREAT, 1), (1, 2), (1, 2)),
        ):
            self.assertIs(self.says(plan=plan), False)
            # Nor with the cost that such a plan would have.
            for cost in range(5):
                self.assertIs(self.says(plan=plan, cost=cost), False)

    def test_lengths_that_are_the_only_fault(self):
        pool = Pool([9, 9], [[0, 1], [0, 1]])
        quote = {"cost": 0, "plan": ((0, 1), (0, 1)), "piece_prices": (0, 0), "pair_prices": (((0, 1), 0),)}
        self.assertIs(self.says(pool, **quote), True)
        for many in (0, 1, 3, 4):
            self.assertIs(self.says(pool, **{**quote, "plan": ((0, 1),) * many}), False)
            self.assertIs(self.says(pool, **{**quote, "piece_prices": (0,) * many}), False)

    def test_a_plan_that_only_the_room_forbids(self):
        pool = Pool([1, 1], [[0, 1], [0, 1]])
        quote = {"cost": 0, "plan": ((0, 1), (0, 1)), "piece_prices": (0, 0), "pair_prices": (((0, 1), 0),)}
        self.assertIs(self.says(pool, **quote), False)
        self.assertIs(self.says(Pool([2, 2], pool.holders), **quote), True)

    def test_a_plan_that_only_the_seats_left_out_forbid(self):
        pool = Pool([1, 1, 1], [[0, 1]])
        quote = {"cost": 0, "plan": ((0, 1),), "piece_prices": (0,)}
        prices = tuple((pair, 0) for pair in ((0, 1), (0, 2), (1, 2)))
        self.assertIs(self.says(pool, **quote, pair_prices=prices), True)
        self.assertIs(self.says(pool, **quote, pair_prices=prices, without=(2,)), False)
        self.assertIs(self.says(pool, **quote, pair_prices=prices[:1], without=(2,)), True)
        self.assertIs(self.says(pool, **quote, pair_prices=prices[2:], without=(0,)), False)
        self.assertIs(self.says(pool, **quote, pair_prices=prices[:1]), False)

    def test_the_prices_of_pieces(self):
        for prices in ((), (1, 1), (1, 1, 1, 0), (2, 1, 0), (1, 0, 1), (1, 2, 0), (1, 1, 2), (1, 1, -1), (0, 0, 3)):
            self.assertIs(self.says(piece_prices=prices), False)
        # Below zero they are no fault by themselves.
        pool = Pool([1, 1, 1], [[0, 1], []])
        prices = (((0, 1), 2), ((0, 2), 2), ((1, 2), 2))
        self.assertIs(self.says(pool, cost=2, plan=((0, 1), (0, 2)), piece_prices=(2, 4), pair_prices=prices), False)
        pool = Pool([1, 1], [[0, 1]])
        for price in (-1, -5):
            made = self.says(pool, cost=0, plan=((0, 1),), piece_prices=(price,), pair_prices=(((0, 1), price),))
            self.assertIs(made, False)

    def test_the_prices_of_pairs(self):
        first, second, third = self.prices
        for prices in (
            (), (first, second), (second, third), (first, third), (second, first, third), (first, second, second, third),
            (first, second, third, ((1, 3), 0)), (first, second, third, ((2, 3), 0)), (((1, 0), 1), second, third),
            (((0, 1), 0), second, third), (((0, 1), 2), second, third), (first, ((0, 2), -1), third),
            (first, ((0, 2), 1), third), (first, second, ((1, 2), 1)), (first, second, ((1, 2), -1)),
            (first, second, third, third), (first, second, ((1, 2), GREAT)), (((0, 1), 1), ((0, 3), 0), second, third),
        ):
            self.assertIs(self.says(pair_prices=prices), False)

    def test_a_price_below_zero_is_the_only_fault(self):
        pool = Pool([1, 1], [[0, 1]])
        quote = {"cost": 0, "plan": ((0, 1),), "piece_prices": (-1,)}
        self.assertIs(self.says(pool, **quote, pair_prices=(((0, 1), -1),)), False)
        self.assertIs(self.says(pool, **{**quote, "piece_prices": (1,)}, pair_prices=(((0, 1), 1),)), True)

    def test_what_a_quote_keeps(self):
        plan, pieces, prices = [[0, 1], [1, 2], (1, 2)], [1, 1, 1], [[[0, 1], 1], ((0, 2), 0), [(1, 2), 0]]
        quote = Quote(2, plan, pieces, prices)
        wanted = [2, self.plan, (1, 1, 1), self.prices]
        self.assertEqual(parts(quote), wanted)
        plan[0][0] = 9
        plan.clear()
        pieces.append(7)
        prices[0][0][0] = 5
        prices[0][1] = 5
        prices.pop()
        self.assertEqual(parts(quote), wanted)
        self.assertIs(is_quote(self.pool, quote), True)
        self.assertEqual(parts(Quote(2, self.plan, (1, 1, 1), self.prices)), wanted)
        self.assertEqual(parts(Quote(0, [], [], [])), [0, (), (), ()])

    def test_drawn_quotes(self):
        dice = random.Random(62)
        right = 0
        for pool in many_pools(250, 62, seats=3, pieces=3):
            quote, least = cheapest_plan(pool), least_cost(pool)
            if quote is None:
                continue
            for _ in range(12):
                pairs = [(pair, price + dice.choice((0, 0, 0, 1, -1))) for pair, price in quote.pair_prices]
                pieces = [price + dice.choice((0, 0, 0, 1, -1)) for price in quote.piece_prices]
                plan = dice.choice(all_plans(pool))
                drawn = Quote(cost_of(pool, plan), plan, pieces, pairs)
                told = is_quote(pool, drawn)
                self.assertIs(told, is_right(pool, drawn))
                right += told
                if told:
                    self.assertEqual(drawn.cost, least)
        self.assertGreater(right, 100)


class TestCopies(unittest.TestCase):
    def test_example(self):
        self.assertEqual(copies_to_add(Pool([1, 1, 1], [[0], [0, 1]])), [(0, 2)])

    def test_the_fewest_copies(self):
        for pool in many_pools(150, 63, seats=3, pieces=4):
            copies = copies_to_add(pool)
            if copies is None:
                continue
            self.assertIs(is_safe(with_copies(pool, copies)), True)
            free = [(piece, seat) for piece in range(pool.pieces) for seat in range(pool.seats)]
            free = [(piece, seat) for piece, seat in free if seat not in pool.holders[piece]]
            for many in range(len(copies)):
                for row in itertools.combinations(free, many):
                    self.assertIs(counting.is_full(with_copies(pool, row)), False)
            lack = pool.pieces - most_dealt(pool)
            self.assertLessEqual(lack, len(copies))
            self.assertLessEqual(len(copies), 2 * lack)

    def test_edges(self):
        self.assertEqual(copies_to_add(Pool([0], [])), [])
        self.assertEqual(copies_to_add(Pool([1, 1], [[0, 1]])), [])
        self.assertEqual(copies_to_add(Pool([1, 1], [[]])), [(0, 0), (0, 1)])
        self.assertIsNone(copies_to_add(Pool([1, 0], [[]])))
        self.assertIsNone(copies_to_add(Pool([1, 1], [[0, 1]]), without=(0,)))
        self.assertEqual(copies_to_add(Pool([GREAT] * 3, [[0]] * 2), without=(0,)), [(0, 1), (0, 2), (1, 1), (1, 2)])


class TestRetirement(unittest.TestCase):
    def test_example(self):
        deeds = [("give", 2, (0,)), ("take", 0, (0,)), ("cap", 0, 0)]
        self.assertEqual(retirement(Pool([1, 1, 1], [[0, 1]]), 0), deeds)

    def test_edges(self):
        self.assertEqual(retirement(Pool([3], []), 0), [("cap", 0, 0)])
        self.assertEqual(retirement(Pool([0], []), 0), [("cap", 0, 0)])
        self.assertEqual(retirement(Pool([1, 1, 0], [[0, 1]]), 2), [("cap", 2, 0)])
        self.assertEqual(retirement(Pool([1, 1, 0], [[0, 1, 2]]), 2), [("take", 2, (0,)), ("cap", 2, 0)])
        self.assertEqual(retirement(Pool([1, 1, 5], [[0, 1]]), 2), [("cap", 2, 0)])
        self.assertIsNone(retirement(Pool([1, 1, 0], [[0, 1]]), 1))
        self.assertIsNone(retirement(Pool([1, 1], [[0, 1]]), 1))
        self.assertIsNone(retirement(Pool([1], [[]]), 0))
        deeds = retirement(Pool([2, 2, 2], [[0, 2], [1, 2]]), 2)
        gives = [("give", 1, (0,)), ("give", 0, (1,))]
        self.assertEqual(deeds, gives + [("take", 2, (0, 1)), ("cap", 2, 0)])

    def test_deed_by_deed(self):
        done = {True: 0, False: 0}
        for pool in many_pools(300, 64) + many_pools(600, 641, pieces=2):
            safe = counting.is_full(pool)
            for seat in range(pool.seats):
                deeds = retirement(pool, seat)
                self.assertEqual(deeds is None, not all_plans(pool, (seat,)))
                if deeds is None:
                    continue
                gives = [deed for deed in deeds if deed[0] == "give"]
                copies = [(deed[2][0], deed[1]) for deed in gives]
                self.assertEqual(copies, sorted(copies))
                self.assertEqual(len(copies), least_cost(pool, (seat,)))
                held = any(seat in row for row in pool.holders)
                self.assertEqual(deeds[len(gives):], [loss_deed(pool, seat)] * held + [("cap", seat, 0)])
                now = pool
                for deed in deeds:
                    now = apply_deed(now, deed)
                    self.assertTrue(counting.is_full(now) or not safe)
                self.assertTrue(counting.is_full(now))
                self.assertEqual(now.caps, pool.caps[:seat] + (0,) + pool.caps[seat + 1:])
                self.assertFalse(any(seat in row for row in now.holders))
                done[safe] += 1
        self.assertGreater(min(done.values()), 80)
