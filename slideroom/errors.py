"""The refusals: each keeps the very things that it was made of."""


class RoomError(ValueError):
    """Any refusal."""


class NoMany(RoomError):
    """No number of cells that a memory can have."""

    def __init__(self, many):
        self.many = many


class NoName(RoomError):
    """No name."""

    def __init__(self, name):
        self.name = name


class NoSize(RoomError):
    """No size of a block."""

    def __init__(self, size):
        self.size = size


class NoPlace(RoomError):
    """No place, or no mark, that can be meant."""

    def __init__(self, at):
        self.at = at


class NoValue(RoomError):
    """No value that a cell can hold."""

    def __init__(self, value):
        self.value = value


class NoRow(RoomError):
    """No row that tells a block, or no list of rows."""

    def __init__(self, row):
        self.row = row


class Twice(RoomError):
    """A name for the second time."""

    def __init__(self, name):
        self.name = name


class Outside(RoomError):
    """A block that would end behind the last cell."""

    def __init__(self, name):
        self.name = name


class Overlap(RoomError):
    """A block that would share a cell with another one."""

    def __init__(self, name, other):
        self.name = name
        self.other = other


class TooMany(RoomError):
    """More blocks than a memory can have."""

    def __init__(self, many):
        self.many = many


class NoBlock(RoomError):
    """No block has this name."""

    def __init__(self, name):
        self.name = name


class NoText(RoomError):
    """A text with a row that is not written as it should be."""

    def __init__(self, row):
        self.row = row


class NotFree(RoomError):
    """No stretch of which all cells are free."""

    def __init__(self, start, size):
        self.start = start
        self.size = size


class NotTaken(RoomError):
    """No stretch of which all cells are taken."""

    def __init__(self, start, size):
        self.start = start
        self.size = size


class NoHole(RoomError):
    """No hole is large enough."""

    def __init__(self, size, largest):
        self.size = size
        self.largest = largest


class NoRule(RoomError):
    """No word of a rule."""

    def __init__(self, word):
        self.word = word


class Pinned(RoomError):
    """A block that is pinned."""

    def __init__(self, name, pins):
        self.name = name
        self.pins = pins


class NotPinned(RoomError):
    """A block that is not pinned."""

    def __init__(self, name):
        self.name = name


class Gone(RoomError):
    """A handle's block was given back."""

    def __init__(self, name):
        self.name = name


class NoMoves(RoomError):
    """No list of moves."""

    def __init__(self, moves):
        self.moves = moves


class NoSlide(RoomError):
    """A block can't be slid to this place."""

    def __init__(self, name, to):
        self.name = name
        self.to = to


class Sliding(RoomError):
    """A slide is under way."""

    def __init__(self, copied):
        self.copied = copied


class NotSliding(RoomError):
    """No slide is under way."""


class Fixed(RoomError):
    """By this rule nothing is slid."""

    def __init__(self, word):
        self.word = word


class NoRoom(RoomError):
    """No slides would bring a hole of this size."""

    def __init__(self, size, stretches):
        self.size = size
        self.stretches = stretches


class NoWay(RoomError):
    """No way in which blocks are packed."""

    def __init__(self, way):
        self.way = way


class NoAsks(RoomError):
    """No row of asks."""

    def __init__(self, at):
        self.at = at


class NoLine(RoomError):
    """No line that a desk can read."""

    def __init__(self, line):
        self.line = line
