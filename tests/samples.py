"""What several tests need: sample pools, random ones, and a clock around a call."""

import random
import time

from pairwarden.nets import Net
from pairwarden.pool import Pool
from pairwarden.pooltext import write_pool


def random_pool(dice, seats=4, pieces=5, cap=3):
    """A pool of at most this many seats and pieces, from a seeded random source.

    Small pools, caps of 0 and dead pieces come too, but most pieces hold pairs with room.
    """
    many = dice.choice((dice.randint(1, seats), seats, seats))
    caps = [dice.choice((0, 1, 1, 1, dice.randint(1, cap))) for _ in range(many)]
    holders = []
    for _ in range(dice.choice((dice.randint(0, pieces), pieces, pieces))):
        least = min(many, dice.choice((0, 2, 2, 2, 2)))
        holders.append(dice.sample(range(many), dice.randint(least, many)))
    return Pool(caps, holders)


def random_deed(dice, pool):
    """A deed that is valid for the pool."""
    deeds = [
        ("seat", dice.randint(0, 3)),
        ("cap", dice.randrange(pool.seats), dice.randint(0, 3)),
        ("put", dice.randint(0, pool.pieces), tuple(dice.sample(range(pool.seats), dice.randint(0, pool.seats)))),
    ]
    if pool.seats > 1 and not any(pool.seats - 1 in row for row in pool.holders):
        deeds.append(("retire",))
    if pool.pieces:
        deeds.append(("remove", dice.randrange(pool.pieces)))
    seat = dice.randrange(pool.seats)
    held = [piece for piece in range(pool.pieces) if seat in pool.holders[piece]]
    free = [piece for piece in range(pool.pieces) if seat not in pool.holders[piece]]
    deeds.append(("take", seat, tuple(dice.sample(held, dice.randint(0, len(held))))))
    deeds.append(("give", seat, tuple(dice.sample(free, dice.randint(0, len(free))))))
    return dice.choice(deeds)


def many_pools(count, seed, **sizes):
    """This many small pools, the same ones in each run."""
    dice = random.Random(seed)
    return [random_pool(dice, **sizes) for _ in range(count)]


def greatest_pools():
    """Pools at the bounds: 12 seats and 60 pieces, with caps and holders of several kinds."""
    dice = random.Random(60)
    wide = [range(12)] * 60
    some = [dice.sample(range(12), 4) for _ in range(60)]
    few = [dice.sample(range(12), 2) for _ in range(60)]
    row = [(at % 11, at % 11 + 1) for at in range(60)]
    pools = []
    for holders in (wide, some, few, row):
        for caps in ([10 ** 60 - 1] * 12, [1] * 12, [0, 1, 2, 3] * 3, [10 ** 60 - 1 - at for at in range(12)]):
            pools.append(Pool(caps, [tuple(seats) for seats in holders]))
    return pools


def same(first, second):
    """Whether two pools are equal in everything."""
    return (first.caps, first.holders, write_pool(first)) == (second.caps, second.holders, write_pool(second))


def seconds(call, *args, **named):
    """How long a call takes."""
    begin = time.perf_counter()
    call(*args, **named)
    return time.perf_counter() - begin


def error_of(kind, call, *args, **named):
    """The error of exactly this class that the call raises."""
    try:
        call(*args, **named)
    except kind as error:
        assert error.__class__ is kind, error.__class__
        return error
    raise AssertionError(f"no {kind.__name__}")


def random_sends(dice, pool, seat, share=1):
    """Allowed sends in any order; with a smaller share, fewer of those that are possible."""
    held = [piece for piece in range(pool.pieces) if seat in pool.holders[piece] and dice.random() <= share]
    sends, left = [], list(pool.caps)
    for piece in dice.sample(held, len(held)):
        senders = [sender for sender in pool.holders[piece] if sender != seat and left[sender] > 0]
        if senders:
            sends.append((piece, dice.choice(senders)))
            left[sends[-1][1]] -= 1
    return sends


def random_net(dice, seats=4, pieces=3, road=2):
    """A net of at most this many seats and pieces."""
    many = dice.randint(1, seats)
    roads = [[dice.choice((0, 1, 1, dice.randint(0, road))) for _ in range(many)] for _ in range(many)]
    holders = []
    for _ in range(dice.randint(0, pieces)):
        least = min(many, dice.choice((0, 2, 2, 3)))
        holders.append(dice.sample(range(many), dice.randint(least, many)))
    return Net(roads, holders)
