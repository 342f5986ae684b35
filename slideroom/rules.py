"""The rules that tell where room is found: by the first hole, the tightest one, or the next one behind a mark."""

from slideroom.errors import NoHole, NoPlace, NoSize
from slideroom.holes import Holes
from slideroom.orders import by_size, by_start, found_in, from_mark
from slideroom.stretches import all_sizes, largest_size
from slideroom.words import is_from, is_within


class Rule:
    """What the rules stand under: it keeps a book, and looks at its holes in the order of the rule."""

    def __init__(self, book):
        self.book = book

    def mark(self):
        """The place from which the next look goes on; 0 by a rule that has none."""
        return 0

    def turn_mark(self, behind):
        """Hear at which place a taking ended; a rule without a mark has no use for it."""
        pass

    def holes(self):
        """The holes by rising starts."""
        return self.book.told()

    def largest_hole(self):
        """The size of the greatest hole, 0 where there is none."""
        return largest_size(self.holes())

    def free_cells(self):
        """How many cells are free."""
        return all_sizes(self.holes())

    def used_by(self, size):
        """How many cells a block of a size takes up."""
        if not is_from(size, 1):
            raise NoSize(size)
        return size

    def look(self, size):
        """The start at which a block of a size would come to lie, and the holes that were passed over."""
        found = found_in(self.order(), self.used_by(size))
        if found is None:
            raise NoHole(size, self.largest_hole())
        return found

    def take(self, size):
        """Take the room that is found for a size; its start."""
        start = self.look(size)[0]
        self.put(start, size)
        self.turn_mark(start + size)
        return start

    def put(self, start, size):
        """Let the cells of a stretch be free no more."""
        self.book.take(start, size)

    def give(self, start, size):
        """Let the cells of a stretch be free from now on."""
        self.book.give(start, size)


class First(Rule):
    """The first hole that is large enough."""

    def __init__(self, many):
        Rule.__init__(self, Holes(many))

    def rule_word(self):
        """The word of the rule."""
        return "first"

    def order(self):
        """The holes in the order in which they are looked at."""
        return by_start(self.holes())


class Tightest(Rule):
    """The smallest hole that is large enough."""

    def __init__(self, many):
        Rule.__init__(self, Holes(many))

    def rule_word(self):
        """The word of the rule."""
        return "tightest"

    def order(self):
        """The holes in the order in which they are looked at."""
        return by_size(self.holes())


class Next(Rule):
    """The first hole that is large enough from the end of the last taking on."""

    def __init__(self, many, mark=0):
        Rule.__init__(self, Holes(many))
        if not is_within(mark, 0, many):
            raise NoPlace(mark)
        self.turned = mark

    def rule_word(self):
        """The word of the rule."""
        return "next"

    def mark(self):
        """The place from which the next look goes on."""
        return self.turned

    def turn_mark(self, behind):
        """Go on from where a taking ended."""
        self.turned = behind

    def order(self):
        """The holes in the order in which they are looked at."""
        return from_mark(self.holes(), self.turned)
