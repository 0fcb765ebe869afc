"""Disks: which blocks stand on a list of cells, and which slots can be written."""

from pairwarden.cells import BLANK, read_block


def blocks_on(disk):
    """Return a dict from the numbers of the blocks on the disk to their texts."""
    blocks = [read_block(cell) for cell in disk]
    return {block[0]: block[1] for block in blocks if block is not None}


def slot_of(disk, number):
    """Return the lowest slot with a block with this number."""
    return [slot for slot, cell in enumerate(disk) if is_copy(cell, {number: True})][0]


def is_copy(cell, numbers):
    """Tell whether the cell is a block with one of the numbers, which are the keys of a dict."""
    block = read_block(cell)
    return block is not None and block[0] in numbers


def free_slot(disk, numbers, least):
    """Return the lowest slot from the least one on that has no copy with one of the numbers."""
    for slot in range(least, len(disk)):
        if not is_copy(disk[slot], numbers):
            return slot
    return max(least, len(disk))


def is_blank(disk, slot):
    """Tell whether the slot has the blank cell; slots behind the end do."""
    return slot >= len(disk) or disk[slot] == BLANK


def waste_slots(disk, numbers):
    """Return the ascending list of the slots that are neither blank nor copies with one of the numbers."""
    return [slot for slot, cell in enumerate(disk) if cell != BLANK and not is_copy(cell, numbers)]
