"""Shelves: the blocks that are there in a memory, by their names."""

from slideroom.errors import NoBlock


class Block:
    """A block as its memory keeps it; its number tells it from every other one that this memory has had."""

    def __init__(self, number, name, start, size, pins):
        self.number = number
        self.name = name
        self.start = start
        self.size = size
        self.pins = pins


class Shelf:
    """The blocks that are there."""

    def __init__(self):
        self.by_name = {}
        self.brought_ever = 0

    def how_many(self):
        """How many blocks are there."""
        return len(self.by_name)

    def has_name(self, thing):
        """Whether a block has the thing as its name; of any thing."""
        # Only texts are looked up, as a list or a dict can't be.
        return isinstance(thing, str) and thing in self.by_name

    def named(self, name):
        """The block of a name."""
        if not self.has_name(name):
            raise NoBlock(name)
        return self.by_name[name]

    def bring(self, name, start, size, pins):
        """Let there be a block, and tell its number."""
        self.brought_ever += 1
        self.by_name[name] = Block(self.brought_ever, name, start, size, pins)
        return self.brought_ever

    def drop(self, name):
        """Let the block of a name be there no more."""
        self.by_name.pop(name)

    def has_numbered(self, name, number):
        """Whether the block of this name and this number is there."""
        return self.has_name(name) and self.by_name[name].number == number

    def told(self):
        """The blocks as tuples (name, start, size, pins), by rising starts."""
        rows = [(block.name, block.start, block.size, block.pins) for block in self.by_name.values()]
        return sorted(rows, key=lambda row: row[1])
