"""Stretches: tuples (start, size), so many cells from a start on."""

from slideroom.words import is_from


def is_stretch(thing):
    """Whether the thing is a stretch."""
    if not isinstance(thing, tuple) or len(thing) != 2:
        return False
    return is_from(thing[0], 0) and is_from(thing[1], 1)


def end_of(stretch):
    """The place behind the last cell of a stretch."""
    return stretch[0] + stretch[1]


def share_cells(one, other):
    """Whether two stretches share a cell."""
    return one[0] < end_of(other) and other[0] < end_of(one)


def largest_size(stretches):
    """The size of the greatest of a list of stretches, 0 where there is none."""
    return max([stretch[1] for stretch in stretches], default=0)


def all_sizes(stretches):
    """How many cells a list of stretches has together."""
    return sum([stretch[1] for stretch in stretches])
