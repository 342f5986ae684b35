"""Papers: slides that bring a hole of a size and move the fewest cells, or the reason why no slides do."""

from slideroom.errors import NoSize
from slideroom.holes import holes_of
from slideroom.layouts import cells_of
from slideroom.moves import copies_of_steps, gone_through_if_let, slid
from slideroom.prices import gaps_of, prices, stretches_of
from slideroom.stretches import end_of, largest_size
from slideroom.words import has_truth, is_from


class Paper:
    """What a paper stands under; by itself it has nothing to tell."""

    def brings(self):
        """Whether the paper brings a hole."""
        return False

    def price(self):
        """How many cells are moved."""
        return None

    def gap(self):
        """The number of the gap at which the hole lies."""
        return None

    def hole(self):
        """The whole hole that lies there behind the slides."""
        return None

    def slides(self):
        """The slides, as moves."""
        return []

    def counted(self):
        """The stretches between pins that were counted."""
        return []


class Plan(Paper):
    """Slides that bring a hole."""

    def __init__(self, cost, number, moves, stretch):
        self.cost = cost
        self.number = number
        self.moves = moves
        self.stretch = stretch

    def brings(self):
        """Whether the paper brings a hole."""
        return True

    def price(self):
        """How many cells are moved."""
        return self.cost

    def gap(self):
        """The number of the gap at which the hole lies."""
        return self.number

    def hole(self):
        """The whole hole that lies there behind the slides."""
        return self.stretch

    def slides(self):
        """The slides, as moves."""
        return list(self.moves)


class Stuck(Paper):
    """No slides help: no stretch between pins has as many free cells."""

    def __init__(self, stretches):
        self.stretches = stretches

    def counted(self):
        """The stretches between pins that were counted."""
        return list(self.stretches)


def need_size(size):
    """Refuse what is no size."""
    if not is_from(size, 1):
        raise NoSize(size)


def choices_at(gap, cells, size, left, right):
    """The tuples (price, gap, by) of a gap of so many cells, by being how much longer it is made at its left end."""
    choices = []
    for by in range(size + 1):
        at_right = right[max(0, size - cells - by)]
        if left[by] is not None and at_right is not None:
            choices.append((left[by] + at_right, gap, by))
    return choices


def least_choice(layout, size):
    """The tuple (price, gap, by) of the least price, of the least gap and of the least by; None where there is none."""
    # For more cells than there are, no tables are told.
    if size > layout.many:
        return None
    tables = prices(layout, size)
    choices = []
    for gap, cells in enumerate(gaps_of(layout)):
        choices.extend(choices_at(gap, cells, size, tables[0][gap], tables[1][gap]))
    return min(choices, default=None)


def slides_to_lesser(layout, gap, by):
    """The moves of blocks to lesser places that make a gap longer by so many cells, by rising starts."""
    blocks = layout.blocks()
    gaps = gaps_of(layout)
    moves = []
    at = gap - 1
    while by > 0:
        moves.append((blocks[at][0], blocks[at][1] - by))
        by = by - gaps[at]
        at = at - 1
    return list(reversed(moves))


def slides_to_greater(layout, gap, by):
    """The moves of blocks to greater places that make a gap longer by so many cells, by falling starts."""
    blocks = layout.blocks()
    gaps = gaps_of(layout)
    moves = []
    at = gap
    while by > 0:
        moves.append((blocks[at][0], blocks[at][1] + by))
        at = at + 1
        by = by - gaps[at]
    return list(reversed(moves))


def hole_at_gap(layout, gap):
    """The stretch of the cells of a gap."""
    start = 0 if gap == 0 else end_of(cells_of(layout.blocks()[gap - 1]))
    return (start, gaps_of(layout)[gap])


def plan(layout, size):
    """The paper of a layout for a hole of a size."""
    need_size(size)
    choice = least_choice(layout, size)
    if choice is None:
        return Stuck(stretches_of(layout))
    gap = choice[1]
    at_right = max(0, size - gaps_of(layout)[gap] - choice[2])
    moves = slides_to_lesser(layout, gap, choice[2]) + slides_to_greater(layout, gap, at_right)
    return Plan(choice[0], gap, moves, hole_at_gap(slid(layout, moves), gap))


def price_of(layout, size, moves):
    """How many copies the moves have, None where they are refused or bring no hole of a size."""
    need_size(size)
    told = gone_through_if_let(layout, moves)
    if told is None or largest_size(holes_of(told[1])) < size:
        return None
    return len(copies_of_steps(told[0]))


def is_stuck(layout, size, told):
    """Whether the thing is the list of the stretches between pins, and each has fewer free cells than the size."""
    need_size(size)
    stretches = stretches_of(layout)
    if told != stretches or has_truth(told):
        return False
    return all([stretch[2] < size for stretch in stretches])
