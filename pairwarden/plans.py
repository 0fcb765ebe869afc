"""Full plans: the cheapest copies that make a pool safe, and prices that show that they are the cheapest."""

from pairwarden.deeds import loss_deed
from pairwarden.pool import pair_room, pairs_with_room, pieces_on
from pairwarden.walks import take_walk


class Quote:
    """A full plan, its cost, and the prices that show that no plan costs less."""

    def __init__(self, cost, plan, piece_prices, pair_prices):
        self.cost = cost
        self.plan = tuple([tuple(pair) for pair in plan])
        self.piece_prices = tuple(piece_prices)
        self.pair_prices = tuple([(tuple(pair), price) for pair, price in pair_prices])


def cheapest_plan(pool, *, without=()):
    """Return a quote of a cheapest full plan without these seats, or None if there is no full plan."""
    pairs = _listed_pairs(pool, without)
    plan = _least_plan(pool, pairs)
    if plan is None:
        return None
    prices = _pair_prices(pool, pairs, plan)
    piece_prices = [prices[pair] + _count_missing(pool, piece, pair) for piece, pair in enumerate(plan)]
    return Quote(_plan_cost(pool, plan), plan, piece_prices, [(pair, prices[pair]) for pair in pairs])


def is_quote(pool, quote, *, without=()):
    """Tell whether the quote has a full plan without these seats, its cost and prices that show it the cheapest."""
    if len(quote.plan) != pool.pieces or len(quote.piece_prices) != pool.pieces:
        return False
    pairs = _listed_pairs(pool, without)
    if [pair for pair, _ in quote.pair_prices] != pairs or not _is_full_plan(pool, pairs, quote.plan):
        return False
    if quote.cost != _plan_cost(pool, quote.plan):
        return False
    return _are_prices(pool, quote)


def copies_to_add(pool, *, without=()):
    """Return the ascending list of the copies `(piece, seat)` that a cheapest plan misses, or None without one."""
    quote = cheapest_plan(pool, without=without)
    if quote is None:
        return None
    copies = [(piece, seat) for piece, pair in enumerate(quote.plan) for seat in pair]
    return [(piece, seat) for piece, seat in copies if seat not in pool.holders[piece]]


def retirement(pool, seat):
    """Return the deeds after which the seat is empty with the cap 0 and the pool is safe, or None."""
    copies = copies_to_add(pool, without=(seat,))
    if copies is None:
        return None
    deeds = [("give", other, (piece,)) for piece, other in copies]
    if pieces_on(pool, seat):
        deeds.append(loss_deed(pool, seat))
    return deeds + [("cap", seat, 0)]


def _listed_pairs(pool, without):
    """Return the ascending list of the pairs with room that have none of these seats."""
    return pairs_with_room(pool, [seat for seat in range(pool.seats) if seat not in without])


def _count_missing(pool, piece, pair):
    """Return how many seats of the pair do not hold the piece."""
    return len([seat for seat in pair if seat not in pool.holders[piece]])


def _plan_cost(pool, plan):
    """Return the number of copies that the plan misses."""
    return sum([_count_missing(pool, piece, pair) for piece, pair in enumerate(plan)])


def _is_free(pool, plan, pair):
    """Tell whether the pair has room for one more piece."""
    return plan.count(pair) < pair_room(pool, pair)


def _is_full_plan(pool, pairs, plan):
    """Tell whether the plan gives each piece one of these pairs, none of them more pieces than its room."""
    return all([pair in pairs and plan.count(pair) <= pair_room(pool, pair) for pair in plan])


def _are_prices(pool, quote):
    """Tell whether the prices show that no full plan costs less."""
    if not all([price >= 0 for _, price in quote.pair_prices]):
        return False
    for piece, piece_price in enumerate(quote.piece_prices):
        if not all([piece_price <= price + _count_missing(pool, piece, pair) for pair, price in quote.pair_prices]):
            return False
    places = sum([pair_room(pool, pair) * price for pair, price in quote.pair_prices])
    return sum(quote.piece_prices) - places == quote.cost


def _least_plan(pool, pairs):
    """Return a list with the pair of each piece in a cheapest plan of these pairs, or None if they lack room."""
    plan = [None] * pool.pieces
    for piece in range(pool.pieces):
        free = [pair for pair in pairs if _is_free(pool, plan, pair)]
        if not free:
            return None
        plan = take_walk(plan, _cheapest_walk(pool, pairs, free, plan, piece))
    return plan


def _cheapest_walk(pool, pairs, free, plan, piece):
    """Return the walk by which the piece comes into the plan at the least cost.

    A cheapest plan of the pieces before it stays one if it is changed along such a walk.
    """
    costs = {pair: _count_missing(pool, piece, pair) for pair in pairs}
    # For each pair the piece that takes it. The one that has it in the plan makes way then.
    takers = {pair: piece for pair in pairs}
    cheaper = True
    while cheaper:
        cheaper = False
        for other, left in enumerate(plan[:piece]):
            base = costs[left] - _count_missing(pool, other, left)
            for pair in pairs:
                cost = base + _count_missing(pool, other, pair)
                if cost < costs[pair]:
                    costs[pair] = cost
                    takers[pair] = other
                    cheaper = True
    last = min(free, key=lambda pair: costs[pair])
    walk = [(takers[last], last)]
    while walk[-1][0] != piece:
        left = plan[walk[-1][0]]
        walk.append((takers[left], left))
    return walk[::-1]


def _pair_prices(pool, pairs, plan):
    """Return for each pair the least additional cost of a way that makes a place in it free."""
    free = [pair for pair in pairs if _is_free(pool, plan, pair)]
    # If no place is free anywhere, only the differences of the prices count.
    prices = {pair: 0 for pair in free or pairs[:1]}
    cheaper = True
    while cheaper:
        cheaper = False
        for piece, left in enumerate(plan):
            cost = min([prices[pair] + _count_missing(pool, piece, pair) for pair in list(prices)])
            cost -= _count_missing(pool, piece, left)
            if left not in prices or cost < prices[left]:
                prices[left] = cost
                cheaper = True
    least = min(prices.values(), default=0)
    return {pair: prices[pair] - least for pair in prices}
