"""Cells: blocks, blank cells, and what a power cut leaves of them."""

WIDTH = 17
BLANK = "-----------------"


def write_block(number, text):
    """Return the block with this number and this text."""
    return f"<{number:06d}{len(text)}{text:-<8}>"


def read_block(cell):
    """Return the tuple of the number and the text of a block, or None if the string is not a block."""
    if len(cell) != WIDTH or "\n" in cell or not cell[1:8].isdigit():
        return None
    number, length = int(cell[1:7]), int(cell[7])
    if number < 1 or not 1 <= length <= 8:
        return None
    text = cell[8:8 + length]
    # Everything else is as the block with this number and this text has it.
    return (number, text) if cell == write_block(number, text) else None


def tear(old, new, kept):
    """Return what is there when only so many characters of the new string were written over the old one."""
    return new[:kept] + old[kept:]
