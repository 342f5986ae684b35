"""What it costs, in cells moved, to make a gap between blocks longer; and the stretches between pins."""

from slideroom.errors import NoSize
from slideroom.layouts import cells_of
from slideroom.stretches import end_of
from slideroom.words import MOST_CELLS, has_truth, is_within


def gaps_of(layout):
    """How many cells each gap has: ahead of the first block, between each two, and behind the last one."""
    gaps = []
    behind = 0
    for block in layout.blocks():
        gaps.append(block[1] - behind)
        behind = end_of(cells_of(block))
    return gaps + [layout.many - behind]


def row_at_end(size):
    """The prices at an end of the memory, where a gap can't be made longer."""
    return [0] + [None] * size


def row_beside(block, beyond, cells, size):
    """The prices of a gap beside a block, by those of the gap beyond the block, which has so many cells."""
    row = row_at_end(size)
    if block[3] > 0:
        return row
    for longer in range(1, size + 1):
        price = beyond[max(0, longer - cells)]
        if price is not None:
            row[longer] = block[2] + price
    return row


def left_prices(layout, size):
    """For each gap the prices for which it is made longer at its left end."""
    gaps = gaps_of(layout)
    table = [row_at_end(size)]
    for at, block in enumerate(layout.blocks()):
        table.append(row_beside(block, table[at], gaps[at], size))
    return table


def right_prices(layout, size):
    """For each gap the prices for which it is made longer at its right end."""
    gaps = gaps_of(layout)
    blocks = layout.blocks()
    falling = [row_at_end(size)]
    for at in range(len(blocks) - 1, -1, -1):
        falling.append(row_beside(blocks[at], falling[-1], gaps[at + 1], size))
    return list(reversed(falling))


def prices(layout, size):
    """The two tables of least prices for a size."""
    if not is_within(size, 1, MOST_CELLS):
        raise NoSize(size)
    return (left_prices(layout, size), right_prices(layout, size))


def is_prices(layout, size, told):
    """Whether the thing is the tuple of the two tables of least prices for a size."""
    # Truths are looked for by themselves, as for Python 1 and True are equal.
    return told == prices(layout, size) and not has_truth(told)


def blocks_between(layout, first, behind):
    """The blocks that start from a place on and ahead of another one, by rising starts."""
    return [block for block in layout.blocks() if first <= block[1] < behind]


def free_between(layout, first, behind):
    """How many cells are free from a place to another one, neither of which lies in the midst of a block."""
    return behind - first - sum([block[2] for block in blocks_between(layout, first, behind)])


def stretches_of(layout):
    """The stretches between pins as tuples (first, behind, free), rising."""
    stretches = []
    first = 0
    for block in layout.blocks():
        if block[3] > 0:
            stretches.append((first, block[1], free_between(layout, first, block[1])))
            first = end_of(cells_of(block))
    stretches.append((first, layout.many, free_between(layout, first, layout.many)))
    return stretches
