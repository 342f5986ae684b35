"""Waste: what part of the cells is of no use, as exact fractions."""

from slideroom.stretches import all_sizes, largest_size


def common_divisor(one, other):
    """The greatest number that divides both of two whole numbers from 0 on, not both of them 0."""
    while other > 0:
        rest = one % other
        one = other
        other = rest
    return one


def fraction(top, bottom):
    """The fraction of this worth, in lowest terms."""
    divisor = common_divisor(top, bottom)
    return (top // divisor, bottom // divisor)


def added(one, other):
    """The fraction that is worth two pairs together."""
    return fraction(one[0] * other[1] + other[0] * one[1], one[1] * other[1])


def is_less(one, other):
    """Whether the first pair is worth less than the second one."""
    return one[0] * other[1] < other[0] * one[1]


def part_of(part, whole):
    """The fraction that a part is of a whole, nought where the whole is nought."""
    if whole == 0:
        return (0, 1)
    return fraction(part, whole)


def outer_waste(holes):
    """Of all cells of the holes, the part that doesn't lie in the greatest one."""
    cells = all_sizes(holes)
    return part_of(cells - largest_size(holes), cells)


def inner_waste(rows):
    """Of all cells that are used, told by tuples (used, asked), the part that wasn't asked for."""
    used = sum([row[0] for row in rows])
    asked = sum([row[1] for row in rows])
    return part_of(used - asked, used)


def waste_of(memory):
    """The outer waste of a memory's holes and the inner waste of its blocks."""
    rows = [(memory.used_by(block[2]), block[2]) for block in memory.blocks()]
    return (outer_waste(memory.holes()), inner_waste(rows))
