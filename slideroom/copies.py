"""Copies from cell to cell, by which a block is slid."""

from slideroom.errors import NoPlace
from slideroom.words import is_whole, is_within


def copies_of(start, size, to):
    """The copies that bring a block from its start to another place."""
    rising = [(start + at, to + at) for at in range(size)]
    if to < start:
        return rising
    if to > start:
        # From its end on, so that no cell is written that is still to be read.
        return list(reversed(rising))
    return []


def is_copy(thing):
    """Whether the thing is a tuple of two whole numbers."""
    return isinstance(thing, tuple) and len(thing) == 2 and is_whole(thing[0]) and is_whole(thing[1])


def is_clean(copies):
    """Whether the thing is a list of copies none of which reads a cell that one ahead of it wrote."""
    if not isinstance(copies, list):
        return False
    written = {}
    for copy in copies:
        if not is_copy(copy) or copy[0] in written:
            return False
        written[copy[1]] = True
    return True


def do_copies(cells, copies):
    """Do copies one by one on a list of cells, which is changed by that."""
    for source, target in copies:
        cells[target] = cells[source]


def need_marks(copies, first, behind):
    """Refuse marks that do not tell which of the copies are to be done."""
    if not is_within(first, 0, len(copies)):
        raise NoPlace(first)
    if behind is not None and not is_within(behind, first, len(copies)):
        raise NoPlace(behind)


def carried(cells, copies, first=0, behind=None):
    """The cells as they are behind the copies from one mark to another one."""
    need_marks(copies, first, behind)
    due = copies[first:] if behind is None else copies[first:behind]
    for copy in due:
        for place in copy:
            if not is_within(place, 0, len(cells) - 1):
                raise NoPlace(place)
    told = list(cells)
    do_copies(told, due)
    return told
