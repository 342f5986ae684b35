"""Layouts: how many cells there are, and which blocks lie in them."""

from slideroom.errors import NoBlock, NoMany, NoPlace, NoRow, Outside, Overlap, TooMany, Twice
from slideroom.stretches import end_of, share_cells
from slideroom.words import is_from, is_many, is_name

MOST_BLOCKS = 40


def is_row(thing):
    """Whether the thing is a tuple (name, start, size, pins) of the right kinds."""
    if not isinstance(thing, tuple) or len(thing) != 4:
        return False
    return is_name(thing[0]) and is_from(thing[1], 0) and is_from(thing[2], 1) and is_from(thing[3], 0)


def cells_of(row):
    """The stretch in which the block of a row lies."""
    return (row[1], row[2])


def need_row(many, row, ahead):
    """Refuse a row that can't stand in so many cells behind the rows ahead of it."""
    if not is_row(row):
        raise NoRow(row)
    if end_of(cells_of(row)) > many:
        raise Outside(row[0])
    # Two walks, as the same name is told ahead of a shared cell, whichever row has it.
    for other in ahead:
        if other[0] == row[0]:
            raise Twice(row[0])
    for other in ahead:
        if share_cells(cells_of(row), cells_of(other)):
            raise Overlap(row[0], other[0])


def need_rows(many, rows):
    """Refuse what is no list of rows that can stand together in so many cells."""
    if not isinstance(rows, list):
        raise NoRow(rows)
    if len(rows) > MOST_BLOCKS:
        raise TooMany(len(rows))
    for at in range(len(rows)):
        need_row(many, rows[at], rows[:at])


class Layout:
    """So many cells and the blocks in them; it never changes."""

    def __init__(self, many, rows):
        if not is_many(many):
            raise NoMany(many)
        need_rows(many, rows)
        self.many = many
        self.rows = sorted(rows, key=lambda row: row[1])

    def blocks(self):
        """The blocks as tuples (name, start, size, pins), by rising starts."""
        return list(self.rows)

    def names(self):
        """The names of the blocks, by rising starts."""
        return [row[0] for row in self.rows]

    def block(self, name):
        """The tuple of the block of a name."""
        for row in self.rows:
            if row[0] == name:
                return row
        raise NoBlock(name)

    def free_cells(self):
        """How many cells are free."""
        return self.many - sum([row[2] for row in self.rows])

    def moved(self, name, to):
        """The layout in which one block starts at another place."""
        row = self.block(name)
        if not is_from(to, 0):
            raise NoPlace(to)
        others = [other for other in self.rows if other[0] != name]
        # As the moved row stands last, it alone can be refused, and the first one it meets is told.
        return Layout(self.many, others + [(name, to, row[2], row[3])])
