"""What several tests of memories need."""

from slideroom.halves import pieces_of, rounded
from slideroom.holes import holes_of

WORDS = ["first", "tightest", "next", "halves"]
SLIDING_WORDS = ["first", "tightest", "next"]


def values(memory):
    return {row[0]: memory.values_of(row[0]) for row in memory.blocks()}


def state(memory):
    """All that a memory tells of how it stands."""
    return (
        memory.many, memory.blocks(), memory.layout().many, memory.layout().blocks(), memory.rule_word(),
        memory.mark(), memory.holes(), memory.order(), memory.largest_hole(), memory.free_cells(), values(memory),
        list(memory.held),
    )


def holes_made_anew(memory):
    """The holes, of nothing but the blocks that are there."""
    if memory.rule_word() != "halves":
        return holes_of(memory.layout())
    return pieces_of(memory.many, [(start, rounded(size)) for _, start, size, _ in memory.blocks()])


def order_made_anew(memory, mark):
    """The holes in their order, of nothing but the blocks that are there and the mark."""
    holes = sorted(holes_made_anew(memory))
    if memory.rule_word() == "first":
        return holes
    if memory.rule_word() == "next":
        return [hole for hole in holes if hole[0] >= mark] + [hole for hole in holes if hole[0] < mark]
    return [hole for size in range(1, 241) for hole in holes if hole[1] == size]


def found_made_anew(memory, mark, size):
    """What looking for a size must tell, None where no hole is large enough."""
    order = order_made_anew(memory, mark)
    needed = size
    if memory.rule_word() == "halves":
        needed = 1
        while needed < size:
            needed *= 2
    for at, hole in enumerate(order):
        if hole[1] >= needed:
            return (hole[0], order[:at])
    return None


def taken_as(memory, *rows):
    """The memory in which blocks of these names and sizes were taken, one behind the other."""
    for name, size in rows:
        memory.take(name, size)
    return memory


def filled(memory):
    """The memory in which every cell of each block was written with a value of its own."""
    for at, row in enumerate(memory.blocks()):
        for cell in range(row[2]):
            memory.write(row[0], cell, 1000 * (at + 1) + cell)
    return memory
