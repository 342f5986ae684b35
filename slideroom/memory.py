"""A memory: cells, the blocks in them, and the rule that tells where a new block comes to lie."""

from slideroom.errors import NoMany, NoName, NoPlace, NoSize, NotFree, NotPinned, NoValue, Pinned, TooMany, Twice
from slideroom.handles import Handle
from slideroom.layouts import MOST_BLOCKS, Layout
from slideroom.ruling import rule_of
from slideroom.shelves import Shelf
from slideroom.words import is_from, is_name, is_value, is_within


def need_new(shelf, name, size):
    """Refuse a name and a size by which no further block can be taken, whatever holes there are."""
    if not is_name(name):
        raise NoName(name)
    if shelf.has_name(name):
        raise Twice(name)
    if not is_from(size, 1):
        raise NoSize(size)
    if shelf.how_many() >= MOST_BLOCKS:
        raise TooMany(shelf.how_many())


def cell_in(memory, name, at):
    """The memory's cell in which a cell of a block lies; refused where there is none."""
    block = memory.shelf.named(name)
    if not is_within(at, 0, block.size - 1):
        raise NoPlace(at)
    return memory.lies_at(name, at)


def rule_with(word, layout, mark):
    """A new rule in which the blocks of a layout are put."""
    rule = rule_of(word, layout.many, mark)
    for name, start, size, pins in layout.blocks():
        rule.put(start, size)
    return rule


class Memory:
    """A row of cells in which blocks are taken and given back by names."""

    def __init__(self, many, word="first"):
        self.rule = rule_of(word, many)
        self.many = many
        self.shelf = Shelf()
        self.held = [0] * many

    def need_still(self):
        """Refuse while a slide is under way; here none ever is, but what stands under this class may have one."""
        pass

    def lies_at(self, name, at):
        """The memory's cell in which a cell of a block lies."""
        return self.shelf.named(name).start + at

    def settle(self, name, to):
        """Let a block start at another place; what the cells hold is not looked at."""
        block = self.shelf.named(name)
        self.rule.give(block.start, block.size)
        try:
            self.rule.put(to, block.size)
        except NotFree as refused:
            self.rule.put(block.start, block.size)
            raise NotFree(to, block.size) from refused
        block.start = to

    def take(self, name, size):
        """Take a block where the rule says; its handle."""
        self.need_still()
        need_new(self.shelf, name, size)
        start = self.rule.take(size)
        number = self.shelf.bring(name, start, size, 0)
        # The cells may still hold what an earlier block left there.
        for at in range(size):
            self.held[self.lies_at(name, at)] = 0
        return Handle(self, name, number)

    def give(self, name):
        """Give a block back."""
        self.need_still()
        block = self.shelf.named(name)
        if block.pins > 0:
            raise Pinned(name, block.pins)
        self.rule.give(block.start, block.size)
        self.shelf.drop(name)

    def pin(self, name):
        """Pin a block once more; the count of its pins."""
        self.need_still()
        block = self.shelf.named(name)
        block.pins += 1
        return block.pins

    def unpin(self, name):
        """Pin a block once less; the count of its pins."""
        self.need_still()
        block = self.shelf.named(name)
        if block.pins == 0:
            raise NotPinned(name)
        block.pins -= 1
        return block.pins

    def stand(self, layout, mark=0):
        """Let a memory without blocks have those of a layout, and its rule a mark."""
        self.need_still()
        if layout.many != self.many:
            raise NoMany(layout.many)
        if self.shelf.how_many() > 0:
            raise TooMany(self.shelf.how_many())
        self.rule = rule_with(self.rule.rule_word(), layout, mark)
        for name, start, size, pins in layout.blocks():
            self.shelf.bring(name, start, size, pins)
        for cell in range(self.many):
            self.held[cell] = 0

    def blocks(self):
        """The blocks as tuples (name, start, size, pins), by rising starts."""
        self.need_still()
        return self.shelf.told()

    def layout(self):
        """The layout of the blocks that are there."""
        self.need_still()
        return Layout(self.many, self.shelf.told())

    def pin_count(self, name):
        """The pins of a block."""
        self.need_still()
        return self.shelf.named(name).pins

    def handle(self, name):
        """A new handle of a block."""
        self.need_still()
        return Handle(self, name, self.shelf.named(name).number)

    def rule_word(self):
        """The word of the rule."""
        return self.rule.rule_word()

    def mark(self):
        """The mark of the rule."""
        return self.rule.mark()

    def holes(self):
        """The holes by rising starts."""
        self.need_still()
        return self.rule.holes()

    def order(self):
        """The holes in the order in which the rule looks at them."""
        self.need_still()
        return self.rule.order()

    def largest_hole(self):
        """The size of the greatest hole, 0 where there is none."""
        self.need_still()
        return self.rule.largest_hole()

    def free_cells(self):
        """How many cells are free."""
        self.need_still()
        return self.rule.free_cells()

    def look(self, size):
        """The start at which a block of a size would come to lie, and the holes that were passed over."""
        self.need_still()
        return self.rule.look(size)

    def used_by(self, size):
        """How many cells a block of a size takes up."""
        return self.rule.used_by(size)

    def read(self, name, at):
        """What lies in a cell of a block."""
        return self.held[cell_in(self, name, at)]

    def write(self, name, at, value):
        """Put a value into a cell of a block."""
        cell = cell_in(self, name, at)
        if not is_value(value):
            raise NoValue(value)
        self.held[cell] = value

    def cell_of(self, name, at):
        """The memory's cell in which a cell of a block lies."""
        return cell_in(self, name, at)

    def values_of(self, name):
        """What lies in all cells of a block."""
        size = self.shelf.named(name).size
        return [self.held[self.lies_at(name, at)] for at in range(size)]
