"""Holes: stretches of free cells that are as long as can be, told of a layout and kept in a book."""

from slideroom.errors import NoMany, NoPlace, NotFree, NotTaken
from slideroom.stretches import all_sizes, end_of, is_stretch, largest_size
from slideroom.words import is_many, is_within


def holes_among(free):
    """The holes of a row of cells, told by a list of whether each one is free."""
    holes = []
    size = 0
    # A cell behind the last one that is not free ends the last hole.
    for cell, is_free in enumerate(free + [False]):
        if is_free:
            size += 1
        elif size > 0:
            holes.append((cell - size, size))
            size = 0
    return holes


def free_among(layout):
    """A list of whether each cell of a layout is free."""
    free = [True] * layout.many
    for block in layout.blocks():
        for cell in range(block[1], block[1] + block[2]):
            free[cell] = False
    return free


def is_all_free(free, stretch):
    """Whether all cells of a stretch are there, and free."""
    return end_of(stretch) <= len(free) and all(free[stretch[0]:end_of(stretch)])


def holes_of(layout):
    """The holes of a layout, rising."""
    return holes_among(free_among(layout))


def is_book(layout, told):
    """Whether the thing is the list of the layout's holes."""
    if not isinstance(told, list):
        return False
    free = free_among(layout)
    # The first stretch may begin at 0, and so has to lie behind no place at all.
    behind = -1
    for stretch in told:
        if not is_stretch(stretch) or stretch[0] <= behind or not is_all_free(free, stretch):
            return False
        behind = end_of(stretch)
    return all_sizes(told) == layout.free_cells()


class Holes:
    """A book of holes: it knows which cells are free, and nothing else."""

    def __init__(self, many):
        if not is_many(many):
            raise NoMany(many)
        self.many = many
        self.free = [True] * many

    def told(self):
        """The holes, rising."""
        return holes_among(self.free)

    def largest_hole(self):
        """The size of the greatest hole, 0 where there is none."""
        return largest_size(self.told())

    def free_cells(self):
        """How many cells are free."""
        return all_sizes(self.told())

    def has(self, start, size):
        """Whether the two things are a stretch of which all cells are free."""
        return is_stretch((start, size)) and is_all_free(self.free, (start, size))

    def has_taken(self, start, size):
        """Whether the two things are a stretch of the memory of which no cell is free."""
        if not is_stretch((start, size)) or start + size > self.many:
            return False
        return not any(self.free[start:start + size])

    def hole_at(self, cell):
        """The hole in which a place lies, None where the cell is not free."""
        if not is_within(cell, 0, self.many - 1):
            raise NoPlace(cell)
        for hole in self.told():
            if hole[0] <= cell < end_of(hole):
                return hole
        return None

    def take(self, start, size):
        """Let the cells of a stretch be free no more."""
        if not self.has(start, size):
            raise NotFree(start, size)
        for cell in range(start, start + size):
            self.free[cell] = False

    def give(self, start, size):
        """Let the cells of a stretch be free from now on."""
        if not self.has_taken(start, size):
            raise NotTaken(start, size)
        for cell in range(start, start + size):
            self.free[cell] = True
