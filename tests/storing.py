"""What tests of stores need: worlds that note their writes, and what a store should do, word by word."""

import itertools

from pairwarden.cells import BLANK, read_block, write_block
from pairwarden.dealer import is_safe
from pairwarden.errors import (
    CannotHold, InvalidCopy, InvalidDeed, InvalidName, InvalidSeats, Lost, Missing, PoolError, PowerCut, Unfinished,
)
from pairwarden.ledger import Ledger
from pairwarden.lots import least_lot
from pairwarden.papers import is_dealing
from pairwarden.pool import Pool
from pairwarden.records import log_end, read_log, read_record, record_text
from pairwarden.store import Store, found
from pairwarden.world import World


class Watched(World):
    """A world that notes its writes."""

    def __init__(self, seats):
        World.__init__(self, seats)
        self.noted = []

    def write_cell(self, seat, slot, cell):
        self.noted.append(("cell", seat, slot, cell))
        World.write_cell(self, seat, slot, cell)

    def write_log(self, index, text):
        self.noted.append(("log", index, text))
        World.write_log(self, index, text)


def watched(world):
    """A watched world that is equal to the given one, and has noted nothing."""
    other = Watched(world.seats)
    twin = world.twin()
    other.disks, other.log, other.writes, other.fuse, other.kept = twin.disks, twin.log, twin.writes, twin.fuse, twin.kept
    return other


def founded(caps):
    """A watched world with a new store, and the store."""
    world = Watched(len(caps))
    found(world, caps)
    world.noted.clear()
    return world, Store(world)


def state(world):
    return [world.seats, [list(disk) for disk in world.disks], list(world.log), world.writes, world.fuse, world.kept]


class View:
    """What is in a world, read without the store."""

    def __init__(self, world):
        self.world = world
        self.ledger = Ledger(read_log(world.log))
        self.numbers = sorted(number for row in self.ledger.names.values() for number in row)
        self.blocks = [dict(filter(None, map(read_block, disk))) for disk in world.disks]
        self.copies = [tuple(seat for seat, row in enumerate(self.blocks) if number in row) for number in self.numbers]
        self.wardens = [self.ledger.wardens[number] for number in self.numbers]
        self.pool = Pool(self.ledger.caps, self.copies)
        self.lacking = [
            (number, seat) for number, pair, row in zip(self.numbers, self.wardens, self.copies)
            for seat in pair if seat not in row
        ]
        self.sends = []
        for number, seat in self.lacking:
            pair, row = self.wardens[self.numbers.index(number)], self.copies[self.numbers.index(number)]
            other = pair[0] + pair[1] - seat
            if row:
                self.sends.append((number, other if other in row else row[0], seat))

    def is_stored(self, cell):
        block = read_block(cell)
        return block is not None and block[0] in self.numbers

    def text(self, number):
        return next(row[number] for row in self.blocks if number in row)

    def read(self, name):
        """The text of a name, or the error."""
        if name not in self.ledger.names:
            return Missing
        numbers = self.ledger.names[name]
        if not all(any(number in row for row in self.blocks) for number in numbers):
            return Lost
        return "".join(map(self.text, numbers))

    def texts(self):
        return {name: self.read(name) for name in self.ledger.names}


def block_writes(view, blocks, disks=None):
    """The writes of blocks `(number, seat, text)` into slots as point 83 says."""
    disks = [list(disk) for disk in disks or view.world.disks]
    taken, writes = set(), []
    for number, seat, text in blocks:
        disk = disks[seat] + [BLANK]
        slot = next(
            slot for slot in itertools.count()
            if slot >= len(disk) - 1 or (not view.is_stored(disk[slot]) and (seat, slot) not in taken)
        )
        if disk[slot] != BLANK:
            writes.append(("cell", seat, slot, BLANK))
        writes.append(("cell", seat, slot, write_block(number, text)))
        disks[seat][slot:slot + 1] = [write_block(number, text)]
        taken.add((seat, slot))
    return writes


def refusal(view, pool, numbers):
    """The CannotHold of a pool whose pieces have these numbers, or None."""
    return None if is_safe(pool) else (CannotHold, {"lot": [numbers[piece] for piece in least_lot(pool)]})


def wanted(world, call):
    """What a call of a method must do, and how its writes are judged.

    The first part is the error, as its class and its attributes, or None. The second one is the list of the writes.
    A write of a record may be a function that judges its text instead.
    """
    view = View(world)
    return globals()[f"wanted_{call[0]}"](view, *call[1:])


def wanted_put(view, name, text, at=()):
    ledger, seats = view.ledger, view.world.seats
    if not 1 <= len(name) <= 12 or set(name) - set("abcdefghijklmnopqrstuvwxyz0123456789"):
        return (InvalidName, {"name": name}), []
    if len(set(at)) != len(at) or set(at) - set(range(seats)):
        return (InvalidSeats, {"seats": at}), []
    if view.lacking:
        return (Unfinished, {"copies": view.lacking}), []
    old = ledger.names.get(name, ())
    kept = [(number, row) for number, row in zip(view.numbers, view.copies) if number not in old]
    parts = ["".join(part) for part in itertools.zip_longest(*[iter(text)] * 8, fillvalue="")]
    first = max([ledger.top] + [number for row in view.blocks for number in row]) + 1
    new = list(range(first, first + len(parts)))
    numbers = [number for number, _ in kept] + new
    pool = Pool(ledger.caps, [row for _, row in kept] + [at or range(seats)] * len(new))
    error = refusal(view, pool, numbers)
    if error:
        return error, []
    chosen = [ledger.wardens[number] for number, _ in kept]
    places = [tuple(sorted(at))] * len(new)
    if not at:
        for piece in range(len(new)):
            pairs = list(itertools.combinations(range(seats), 2))
            free = [min(ledger.caps[a], ledger.caps[b]) - chosen.count((a, b)) for a, b in pairs]
            places[piece] = pairs[free.index(max(free))]
            chosen.append(places[piece])
    blocks = [(number, seat, part) for number, part, row in zip(new, parts, places) for seat in row]

    def judge(record):
        if record[:3] != ("put", name, tuple(new)):
            return False
        if not at and record[3] != tuple((number, *pair) for number, pair in zip(new, places)):
            return False
        return are_new_wardens(ledger, pool, numbers, record[3])

    return None, block_writes(view, blocks) + [("log", log_end(view.world.log), judge)]


def are_new_wardens(ledger, pool, numbers, entries):
    """Whether the entries change exactly some wardens, and make them a full dealing of the pool."""
    given = {number: (first, second) for number, first, second in entries}
    if any(number not in numbers or ledger.wardens.get(number) == pair for number, pair in given.items()):
        return False
    dealing = [given.get(number, ledger.wardens.get(number)) for number in numbers]
    return None not in dealing and is_dealing(pool, dealing)


def wanted_erase(view, name):
    if name not in view.ledger.names:
        return (Missing, {"name": name}), []
    return None, [("log", log_end(view.world.log), f"erase {name};")]


def wanted_send(view, number, seat):
    if (number, seat) not in [(other, to) for other, _, to in view.sends]:
        return (InvalidCopy, {"number": number, "seat": seat}), []
    return None, block_writes(view, [(number, seat, view.text(number))])


def wanted_mend(view):
    blanks, disks = [], [list(disk) for disk in view.world.disks]
    for seat, disk in enumerate(view.world.disks):
        for slot, cell in enumerate(disk):
            if cell != BLANK and not view.is_stored(cell):
                blanks.append(("cell", seat, slot, BLANK))
                disks[seat][slot] = BLANK
    return None, blanks + block_writes(view, [(number, seat, view.text(number)) for number, _, seat in view.sends], disks)


def is_copy(view, number, seat):
    """Whether a seat has a copy of a stored piece, or None if one of them does not exist."""
    if number not in view.numbers or seat not in range(view.world.seats):
        return None
    return seat in view.copies[view.numbers.index(number)]


def wanted_add_copy(view, number, seat):
    if is_copy(view, number, seat) in (None, True):
        return (InvalidCopy, {"number": number, "seat": seat}), []
    if view.lacking:
        return (Unfinished, {"copies": view.lacking}), []
    return None, block_writes(view, [(number, seat, view.text(number))])


def wanted_drop_copy(view, number, seat):
    if not is_copy(view, number, seat):
        return (InvalidCopy, {"number": number, "seat": seat}), []
    if view.lacking:
        return (Unfinished, {"copies": view.lacking}), []
    rows = [
        tuple(holder for holder in row if (other, holder) != (number, seat))
        for other, row in zip(view.numbers, view.copies)
    ]
    pool = Pool(view.ledger.caps, rows)
    error = refusal(view, pool, view.numbers)
    if error:
        return error, []
    slot = next(slot for slot, cell in enumerate(view.world.disks[seat]) if (read_block(cell) or (0,))[0] == number)

    def judge(record):
        return record[0] == "deal" and are_new_wardens(view.ledger, pool, view.numbers, record[1])

    deal = [("log", log_end(view.world.log), judge)] if seat in view.ledger.wardens[number] else []
    return None, deal + [("cell", seat, slot, BLANK)]


def wanted_set_cap(view, seat, cap):
    if seat not in range(view.world.seats) or cap < 0:
        return (InvalidDeed, {"deed": ("cap", seat, cap)}), []
    if view.lacking:
        return (Unfinished, {"copies": view.lacking}), []
    caps = list(view.ledger.caps)
    caps[seat] = cap
    pool = Pool(caps, view.copies)
    error = refusal(view, pool, view.numbers)
    if error:
        return error, []

    def judge(record):
        if record[:3] != ("cap", seat, cap) or (is_dealing(pool, view.wardens) and record[3]):
            return False
        return are_new_wardens(view.ledger, pool, view.numbers, record[3])

    return None, [("log", log_end(view.world.log), judge)]


def wanted_pack(view):
    end = log_end(view.world.log)
    empties = [("log", index, "") for index in range(end) if view.world.log[index] != ""]
    return None, [("log", end, record_text(view.ledger.to_picture()))] + empties


def run(store, call):
    """Call a method of a store."""
    name, *args = call
    if name == "put":
        return store.put(args[0], args[1], at=args[2] if len(args) > 2 else ())
    return getattr(store, name)(*args)


def is_wanted(write, noted):
    """Whether a write is as it must be."""
    if callable(write[-1]):
        record = read_record(noted[-1])
        return write[:-1] == noted[:-1] and record is not None and write[-1](record)
    return write == noted


def fault(world, call):
    """Run a call on a watched world, and tell what is wrong with what it did, or None."""
    error, writes = wanted(world, call)
    before, store = state(world), Store(world)
    world.noted.clear()
    try:
        told = run(store, call)
    except PowerCut:
        return "cut"
    except PoolError as raised:
        if error is None or (type(raised), vars(raised)) != error:
            return f"raised {raised!r} {vars(raised)}, not {error}"
        return None if state(world) == before and not world.noted else "wrote and then raised"
    if error is not None:
        return f"not refused: {error}"
    if told is not None or store.writing is not False:
        return "returned something"
    if len(writes) != len(world.noted) or not all(map(is_wanted, writes, world.noted)):
        return f"wrote {world.noted}, not {writes}"
    return None


CHARS = "ab -<>1x:;=/,"


def drawn_text(dice, most=24):
    return "".join(dice.choices(CHARS, k=dice.choice((0, 1, 7, 8, 9, 16, most, dice.randint(0, most)))))


def drawn_call(dice, world):
    """A call of a method that writes; most calls are possible ones."""
    view, seats = View(world), world.seats
    kind = dice.choice("put put put erase mend pack set_cap set_cap send send add_copy add_copy drop_copy drop_copy".split())
    if kind in ("mend", "pack"):
        return (kind,)
    if kind == "set_cap":
        return (kind, dice.choice([*range(seats)] * 5 + [seats, -1]), dice.choice((0, 0, 1, 2, 3, 9, -1)))
    if kind in ("put", "erase"):
        name = dice.choice(sorted(view.ledger.names) + ["a", "b2", "c"])
        at = dice.choice(((), (), tuple(dice.sample(range(seats), dice.randint(0, seats)))))
        wrong = [("", "x", ()), ("a b", "x", ()), (name, "x", (0, 0)), (name, "x", (seats,)), (name, "x", (-1, 0))]
        put = dice.choice([(name, drawn_text(dice), at)] * 25 + wrong)
        return (kind, name) if kind == "erase" else (kind, *put)
    places = {
        "send": view.lacking,
        "add_copy": [(number, seat) for number in view.numbers for seat in range(seats) if not is_copy(view, number, seat)],
        "drop_copy": [(number, seat) for number in view.numbers for seat in range(seats) if is_copy(view, number, seat)],
    }
    anywhere = (dice.choice([0, 77, *view.numbers]), dice.choice([-1, *range(seats + 1)]))
    return (kind, *(dice.choice(places[kind]) if places[kind] and dice.randrange(6) else anywhere))


def drawn_world(dice, calls=8, seats=4, caps=(0, 1, 2, 2, 3, 3)):
    """A world of a store after drawn calls, losses and power cuts."""
    world, store = founded([dice.choice(caps) for _ in range(dice.randint(1, seats))])
    for _ in range(calls):
        if dice.randrange(8) == 0:
            world.lose(dice.randrange(world.seats))
        if dice.randrange(8) == 0:
            world.lose_cells(dice.randrange(world.seats), dice.sample(range(6), 2))
        if dice.randrange(4) == 0:
            world.cut_after(dice.randrange(5), dice.choice((0, 1, 8, 16, 17, 40)))
        try:
            run(store, drawn_call(dice, world))
        except PoolError:
            pass
        world.fuse = None
    world.noted.clear()
    return world
