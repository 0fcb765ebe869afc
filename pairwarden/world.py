"""The world: everything that survives a power cut."""

from pairwarden.cells import BLANK, tear
from pairwarden.errors import PowerCut


class World:
    """The disks and the log, and when the power is cut."""

    def __init__(self, seats):
        self.seats = seats
        self.disks = [[] for _ in range(seats)]
        self.log = []
        self.writes = 0
        self.fuse = None
        self.kept = 0

    def cut_after(self, writes, kept):
        """Let so many writes succeed, and keep so many characters of the write behind them."""
        self.fuse = writes
        self.kept = kept

    def write_cell(self, seat, slot, cell):
        """Write a cell, or raise PowerCut when the write is torn."""
        disk = self.disks[seat]
        while len(disk) <= slot:
            disk.append(BLANK)
        self._write(disk, slot, cell)

    def write_log(self, index, text):
        """Write a string of the log, or raise PowerCut when the write is torn."""
        if index == len(self.log):
            self.log.append("")
        self._write(self.log, index, text)

    def lose(self, seat):
        """Make the disk of the seat empty."""
        self.disks[seat] = []

    def lose_cells(self, seat, slots):
        """Make the cells with these slots blank."""
        disk = self.disks[seat]
        for slot in slots:
            if slot < len(disk):
                disk[slot] = BLANK

    def twin(self):
        """Return a new world that is equal to this one."""
        other = World(self.seats)
        other.disks = [list(disk) for disk in self.disks]
        other.log = list(self.log)
        other.writes = self.writes
        other.fuse = self.fuse
        other.kept = self.kept
        return other

    def _write(self, strings, at, new):
        """Store a string in a list, or what a power cut leaves of it."""
        self.writes += 1
        if self.fuse == 0:
            self.fuse = None
            # What is written whole replaces the old string, also where that one is longer.
            strings[at] = new if self.kept >= len(new) else tear(strings[at], new, self.kept)
            raise PowerCut()
        if self.fuse is not None:
            self.fuse -= 1
        strings[at] = new
