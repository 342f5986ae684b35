"""A room: a memory that slides its blocks by itself, to one end or until there is room."""

from slideroom.errors import NoRoom
from slideroom.memory import need_new
from slideroom.packing import packed, tidied
from slideroom.plans import plan
from slideroom.sliding import Slider


class Room(Slider):
    """A slider that makes room."""

    def pack(self, way="down"):
        """Slide all blocks that aren't pinned down or up; the moves that were done."""
        self.need_slidable()
        moves = packed(self.layout(), way)
        self.slide(moves)
        return moves

    def tidy(self):
        """Leave as few holes as can be for the least price; the moves that were done."""
        self.need_slidable()
        moves = tidied(self.layout())[1]
        self.slide(moves)
        return moves

    def plan_for(self, size):
        """The paper for a hole of a size; nothing is done by that."""
        self.need_slidable()
        return plan(self.layout(), size)

    def make_room(self, size):
        """Do the slides of the paper for a hole of a size, if it has any; the paper."""
        paper = self.plan_for(size)
        self.slide(paper.slides())
        return paper

    def fit(self, name, size):
        """Take a block, and make room for it where no hole is large enough; its handle."""
        self.need_still()
        need_new(self.shelf, name, size)
        if self.rule_word() != "halves" and self.largest_hole() < size:
            paper = self.make_room(size)
            if not paper.brings():
                raise NoRoom(size, paper.counted())
        return self.take(name, size)
