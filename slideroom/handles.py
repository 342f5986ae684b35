"""Handles: a block of a memory, read and written wherever it lies."""

from slideroom.errors import Gone


class Handle:
    """One block of a memory, from when it was taken until it is given back."""

    def __init__(self, memory, name, number):
        self.memory = memory
        self.name = name
        # The name alone won't do: behind the giving another block may have it.
        self.number = number

    def block_name(self):
        """The name of the block."""
        return self.name

    def is_there(self):
        """Whether the block is there."""
        return self.memory.shelf.has_numbered(self.name, self.number)

    def need_there(self):
        """Refuse where the block was given back."""
        if not self.is_there():
            raise Gone(self.name)

    def block_size(self):
        """The size of the block."""
        self.need_there()
        return self.memory.shelf.named(self.name).size

    def block_start(self):
        """The start of the block."""
        self.need_there()
        # In the midst of a slide a block has no one start.
        self.memory.need_still()
        return self.memory.shelf.named(self.name).start

    def read(self, at):
        """What lies in a cell of the block."""
        self.need_there()
        return self.memory.read(self.name, at)

    def write(self, at, value):
        """Put a value into a cell of the block."""
        self.need_there()
        self.memory.write(self.name, at, value)

    def all_values(self):
        """What lies in all cells of the block."""
        self.need_there()
        return self.memory.values_of(self.name)

    def reader(self):
        """A function that tells what lies in a cell of the block whenever it is called."""
        self.need_there()

        def read_at(at):
            return self.read(at)

        return read_at
