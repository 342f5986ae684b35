"""Halves of halves: a memory cut into pieces, each with a power of two of cells, and the rule that takes them."""

from slideroom.errors import NoMany, NoSize, NotFree, NotTaken
from slideroom.orders import by_size
from slideroom.rules import Rule
from slideroom.stretches import end_of, share_cells
from slideroom.words import is_from, is_many, is_whole


def rounded(size):
    """The least power of two that isn't less than a size."""
    if not is_from(size, 1):
        raise NoSize(size)
    power = 1
    while power < size:
        power = power * 2
    return power


def greatest_power(most):
    """The greatest power of two that isn't more than a number from 1 on."""
    power = 1
    while power * 2 <= most:
        power = power * 2
    return power


def wholes_of(many):
    """The wholes of a memory of so many cells, rising."""
    if not is_many(many):
        raise NoMany(many)
    wholes = []
    start = 0
    while start < many:
        whole = (start, greatest_power(many - start))
        wholes.append(whole)
        start = end_of(whole)
    return wholes


def is_cut_from(whole, piece):
    """Whether a stretch comes out when a whole is halved again and again."""
    if piece[0] < whole[0] or end_of(piece) > end_of(whole):
        return False
    return rounded(piece[1]) == piece[1] and (piece[0] - whole[0]) % piece[1] == 0


def is_piece(many, start, size):
    """Whether a memory of so many cells has the stretch of this start and size as a piece; of any things."""
    if not is_many(many) or not is_from(start, 0) or not is_from(size, 1):
        return False
    return any([is_cut_from(whole, (start, size)) for whole in wholes_of(many)])


def is_free_piece(many, start, size, taken):
    """Whether the two things are a piece that shares no cell with a list of pieces."""
    if not is_piece(many, start, size):
        return False
    return not any([share_cells((start, size), piece) for piece in taken])


def free_within(piece, taken):
    """The free pieces within a piece, rising, for a list of pieces that are taken."""
    sharing = [one for one in taken if share_cells(piece, one)]
    if sharing == []:
        return [piece]
    if piece in sharing:
        return []
    half = piece[1] // 2
    # A taken piece that shares a cell and isn't the piece itself lies in one of its halves.
    return free_within((piece[0], half), sharing) + free_within((piece[0] + half, half), sharing)


def free_pieces(many, taken):
    """The free pieces of a memory of so many cells, rising, for pieces that are known to lie apart."""
    told = []
    for whole in wholes_of(many):
        told.extend(free_within(whole, taken))
    return told


def pieces_of(many, taken):
    """The free pieces of a memory of so many cells, rising, for a list of pieces that are taken."""
    if not is_many(many):
        raise NoMany(many)
    for at in range(len(taken)):
        row = taken[at]
        if not is_free_piece(many, row[0], row[1], taken[:at]):
            raise NotFree(row[0], row[1])
    return free_pieces(many, taken)


class Pieces:
    """A book of pieces: it knows which pieces are taken, and nothing else."""

    def __init__(self, many):
        if not is_many(many):
            raise NoMany(many)
        self.many = many
        self.pieces = []

    def told(self):
        """The free pieces, rising."""
        return free_pieces(self.many, self.pieces)

    def taken(self):
        """The taken pieces, rising."""
        return sorted(self.pieces)

    def take(self, start, size):
        """Take the piece of a start and of the rounded size."""
        if not is_from(size, 1) or not is_free_piece(self.many, start, rounded(size), self.pieces):
            raise NotFree(start, size)
        self.pieces.append((start, rounded(size)))

    def give(self, start, size):
        """Let the piece of a start and of the rounded size be taken no more."""
        # The start is looked at by itself, as for Python 1 and True are equal.
        if not is_whole(start) or not is_from(size, 1) or (start, rounded(size)) not in self.pieces:
            raise NotTaken(start, size)
        self.pieces.remove((start, rounded(size)))


class Halves(Rule):
    """The smallest free piece that is large enough, cut down to the rounded size."""

    def __init__(self, many):
        Rule.__init__(self, Pieces(many))

    def rule_word(self):
        """The word of the rule."""
        return "halves"

    def order(self):
        """The holes in the order in which they are looked at."""
        return by_size(self.holes())

    def used_by(self, size):
        """How many cells a block of a size takes up."""
        return rounded(size)

    def taken(self):
        """The taken pieces, rising."""
        return self.book.taken()
