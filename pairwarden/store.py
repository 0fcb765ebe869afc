"""The store: texts under names, in blocks on the disks of a world."""

from itertools import combinations

from pairwarden.cells import BLANK, write_block
from pairwarden.dealer import greatest_dealing
from pairwarden.deeds import apply_deed
from pairwarden.disks import blocks_on, free_slot, is_blank, slot_of, waste_slots
from pairwarden.errors import (
    CannotHold, InvalidCopy, InvalidName, InvalidPool, InvalidSeats, Lost, Missing, Unfinished,
)
from pairwarden.keeping import without_wrong
from pairwarden.ledger import Ledger
from pairwarden.lots import least_lot
from pairwarden.numbering import are_different
from pairwarden.pool import Pool, pair_room
from pairwarden.records import log_end, read_log, record_text
from pairwarden.words import is_name


def found(world, caps):
    """Found a store on a world, or raise InvalidPool or PowerCut."""
    if len(caps) != world.seats:
        raise InvalidPool(None)
    # A pool has the same conditions for its caps.
    pool = Pool(caps, [])
    world.write_log(log_end(world.log), record_text(("picture", pool.caps, (), ())))


class Store:
    """The store of a world. It keeps nothing of the contents, but reads the world anew in each method."""

    def __init__(self, world):
        self.world = world
        self.writing = False
        # A world without a picture has no store to open.
        self._ledger()

    def list_names(self):
        """Return the ascending list of the names."""
        return sorted(self._ledger().names)

    def list_numbers(self):
        """Return the ascending list of the stored pieces."""
        return sorted(self._ledger().wardens)

    def list_caps(self):
        """Return the list of the caps."""
        return self._ledger().caps

    def list_copies(self):
        """Return the tuple of the seats that have a copy, for each stored piece in order."""
        disks = self._blocks()
        return [_seats_with(disks, number) for number in self.list_numbers()]

    def list_wardens(self):
        """Return the pair of each stored piece in order."""
        wardens = self._ledger().wardens
        return [wardens[number] for number in sorted(wardens)]

    def list_lacking(self):
        """Return the ascending list of the lacking copies `(number, seat)`."""
        disks = self._blocks()
        wardens = self._ledger().wardens
        copies = [(number, seat) for number in sorted(wardens) for seat in wardens[number]]
        return [(number, seat) for number, seat in copies if number not in disks[seat]]

    def is_at_rest(self):
        """Tell whether no copy is lacking."""
        return not self.list_lacking()

    def as_pool(self):
        """Return the pool with the caps, and with the copies as holders."""
        return Pool(self.list_caps(), self.list_copies())

    def read(self, name):
        """Return the text of a name, or raise Missing or Lost."""
        names = self._ledger().names
        if name not in names:
            raise Missing(name)
        texts = self._texts()
        if not all([number in texts for number in names[name]]):
            raise Lost(name)
        return "".join([texts[number] for number in names[name]])

    def put(self, name, text, *, at=()):
        """Store a text under a name, or raise InvalidName, InvalidSeats, Unfinished, CannotHold or PowerCut."""
        if not is_name(name):
            raise InvalidName(name)
        if not are_different(at, self.world.seats):
            raise InvalidSeats(at)
        self._check_rest()
        ledger = self._ledger()
        parts = _parts(text)
        new = self._new_numbers(len(parts))
        kept = [number for number in sorted(ledger.wardens) if number not in ledger.names.get(name, ())]
        pool = self._pool_with(kept, [at or tuple(range(self.world.seats))] * len(new))
        pairs = [ledger.wardens[number] for number in kept]
        wardens = _full_wardens(pool, kept + new, pairs + [None] * len(new))
        if not at:
            wardens = pairs + _roomiest_pairs(pool, pairs, len(new))
        blocks = []
        for number, part, pair in zip(new, parts, wardens[len(kept):]):
            blocks.extend([(number, seat, part) for seat in sorted(at or pair)])
        self._write_blocks(blocks)
        self._write_record(("put", name, tuple(new), _changed(ledger, kept + new, wardens)))

    def erase(self, name):
        """Remove a name, or raise Missing or PowerCut."""
        if name not in self._ledger().names:
            raise Missing(name)
        self._write_record(("erase", name))

    def list_sends(self):
        """Return the sends `(number, sender, seat)` of the lacking copies that can be sent."""
        disks = self._blocks()
        wardens = self._ledger().wardens
        sends = []
        for number, seat in self.list_lacking():
            holders = _seats_with(disks, number)
            # The lacking warden is none of the holders, so the other one is the only warden among them.
            senders = [holder for holder in holders if holder in wardens[number]] + list(holders)
            if senders:
                sends.append((number, senders[0], seat))
        return sends

    def send(self, number, seat):
        """Write a lacking copy, or raise InvalidCopy or PowerCut."""
        if (number, seat) not in [(other, to) for other, _, to in self.list_sends()]:
            raise InvalidCopy(number, seat)
        self._write_copies([(number, seat)])

    def mend(self):
        """Clear all cells that nothing needs and write all lacking copies that can be sent, or raise PowerCut."""
        numbers = self._ledger().wardens
        waste = [(seat, slot) for seat, disk in enumerate(self.world.disks) for slot in waste_slots(disk, numbers)]
        for seat, slot in waste:
            self._write_cell(seat, slot, BLANK)
        self._write_copies([(number, seat) for number, _, seat in self.list_sends()])

    def add_copy(self, number, seat):
        """Write one more copy of a stored piece, or raise InvalidCopy, Unfinished or PowerCut."""
        if not self._is_place(number, seat) or number in self._blocks()[seat]:
            raise InvalidCopy(number, seat)
        self._check_rest()
        self._write_copies([(number, seat)])

    def drop_copy(self, number, seat):
        """Remove a copy, or raise InvalidCopy, Unfinished, CannotHold or PowerCut."""
        if not self._is_place(number, seat) or number not in self._blocks()[seat]:
            raise InvalidCopy(number, seat)
        self._check_rest()
        ledger = self._ledger()
        numbers = sorted(ledger.wardens)
        pool = apply_deed(self.as_pool(), ("take", seat, (numbers.index(number),)))
        wardens = _full_wardens(pool, numbers, self.list_wardens())
        if seat in ledger.wardens[number]:
            self._write_record(("deal", _changed(ledger, numbers, wardens)))
        self._write_cell(seat, slot_of(self.world.disks[seat], number), BLANK)

    def set_cap(self, seat, cap):
        """Change the cap of a seat, or raise InvalidDeed, Unfinished, CannotHold or PowerCut."""
        pool = apply_deed(self.as_pool(), ("cap", seat, cap))
        self._check_rest()
        ledger = self._ledger()
        numbers = sorted(ledger.wardens)
        wardens = _full_wardens(pool, numbers, self.list_wardens())
        self._write_record(("cap", seat, cap, _changed(ledger, numbers, wardens)))

    def pack(self):
        """Write a picture of the ledger and empty all strings of the log before it, or raise PowerCut."""
        end = log_end(self.world.log)
        self._write_record(self._ledger().to_picture())
        for index in [index for index in range(end) if self.world.log[index]]:
            self._write_log(index, "")

    def _ledger(self):
        """Return what the log says, or raise NoStore."""
        return Ledger(read_log(self.world.log))

    def _blocks(self):
        """Return for each seat a dict from the numbers of its blocks to their texts."""
        return [blocks_on(disk) for disk in self.world.disks]

    def _texts(self):
        """Return a dict from the numbers of all blocks to their texts."""
        return {number: text for blocks in self._blocks() for number, text in blocks.items()}

    def _new_numbers(self, many):
        """Return so many numbers that nothing in the world has."""
        first = max([self._ledger().top] + list(self._texts())) + 1
        return list(range(first, first + many))

    def _pool_with(self, kept, added):
        """Return the pool of these stored pieces, with their copies, and of pieces with the added holders."""
        disks = self._blocks()
        return Pool(self.list_caps(), [_seats_with(disks, number) for number in kept] + added)

    def _is_place(self, number, seat):
        """Tell whether the piece is a stored one and the seat exists."""
        return number in self._ledger().wardens and 0 <= seat < self.world.seats

    def _check_rest(self):
        """Raise Unfinished if a copy is lacking."""
        copies = self.list_lacking()
        if copies:
            raise Unfinished(copies)

    def _write_copies(self, places):
        """Write a copy of a stored piece for each `(number, seat)`."""
        texts = self._texts()
        self._write_blocks([(number, seat, texts[number]) for number, seat in places])

    def _write_blocks(self, blocks):
        """Write the blocks `(number, seat, text)`, each into the lowest slot that no other one needs."""
        numbers = self._ledger().wardens
        # Below these slots everything is needed, by stored pieces or by what this call has written.
        least = [0] * self.world.seats
        for number, seat, text in blocks:
            slot = free_slot(self.world.disks[seat], numbers, least[seat])
            if not is_blank(self.world.disks[seat], slot):
                self._write_cell(seat, slot, BLANK)
            self._write_cell(seat, slot, write_block(number, text))
            least[seat] = slot + 1

    def _write_record(self, record):
        """Write a record behind those that count."""
        self._write_log(log_end(self.world.log), record_text(record))

    def _write_cell(self, seat, slot, cell):
        """Write a cell of the world."""
        self.writing = True
        try:
            self.world.write_cell(seat, slot, cell)
        finally:
            self.writing = False

    def _write_log(self, index, text):
        """Write a string of the log of the world."""
        self.writing = True
        try:
            self.world.write_log(index, text)
        finally:
            self.writing = False


def _seats_with(disks, number):
    """Return the ascending tuple of the seats among whose blocks the number is."""
    return tuple([seat for seat, blocks in enumerate(disks) if number in blocks])


def _parts(text):
    """Return the parts of 8 characters of a text; the last one may be shorter."""
    return [text[at:at + 8] for at in range(0, len(text), 8)]


def _full_wardens(pool, numbers, pairs):
    """Return a full dealing of the pool, with as many of the pairs as can stay, or raise CannotHold."""
    dealing = greatest_dealing(pool, start=without_wrong(pool, pairs))
    if None in dealing:
        raise CannotHold([numbers[piece] for piece in least_lot(pool)])
    return dealing


def _roomiest_pairs(pool, pairs, many):
    """Return so many pairs, each the first one with the most free places beside these pairs and those before it."""
    free = {pair: pair_room(pool, pair) - pairs.count(pair) for pair in combinations(range(pool.seats), 2)}
    chosen = []
    for _ in range(many):
        pair = max(free, key=lambda other: free[other])
        free[pair] -= 1
        chosen.append(pair)
    return chosen


def _changed(ledger, numbers, wardens):
    """Return the warden entries of those numbers whose pairs are not those of the ledger."""
    rows = [(number, pair) for number, pair in zip(numbers, wardens) if ledger.wardens.get(number) != pair]
    return tuple([(number,) + pair for number, pair in rows])
