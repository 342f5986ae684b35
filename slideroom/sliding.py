"""A memory in which blocks can be slid, copy by copy."""

from slideroom.copies import do_copies
from slideroom.errors import Fixed, NoSize, NotSliding, Sliding
from slideroom.memory import Memory
from slideroom.moves import copies_of_steps, steps_of
from slideroom.words import is_from


class Slider(Memory):
    """A memory in which blocks can be slid; while a slide is under way it keeps the slide's copies."""

    def __init__(self, many, word="first"):
        Memory.__init__(self, many, word)
        self.forget_slide()

    def forget_slide(self):
        """Let no slide be under way."""
        self.steps = []
        self.copies = []
        self.copied = 0
        self.new_places = {}

    def need_still(self):
        """Refuse while a slide is under way."""
        if self.copies != []:
            raise Sliding(self.copied)

    def need_slidable(self):
        """Refuse while a slide is under way, and where nothing is ever slid."""
        self.need_still()
        if self.rule_word() == "halves":
            raise Fixed(self.rule_word())

    def lies_at(self, name, at):
        """The memory's cell in which a cell of a block lies, also in the midst of a slide."""
        place = self.shelf.named(name).start + at
        # No two copies of a slide read the same cell, so the old place tells whether a cell's own copy is done.
        return self.new_places.get(place, place)

    def begin(self, moves):
        """Begin the slides of moves; how many copies they have."""
        self.need_slidable()
        self.steps = steps_of(self.layout(), moves)
        self.copies = copies_of_steps(self.steps)
        return len(self.copies)

    def go_on(self, most=1):
        """Do at most so many copies more; how many are done in all."""
        if self.copies == []:
            raise NotSliding()
        if not is_from(most, 1):
            raise NoSize(most)
        behind = min(self.copied + most, len(self.copies))
        due = self.copies[self.copied:behind]
        do_copies(self.held, due)
        for source, target in due:
            self.new_places[source] = target
        self.copied = behind
        if behind == len(self.copies):
            self.end_slide()
        return behind

    def end_slide(self):
        """Let the blocks start at their new places, and no slide be under way."""
        steps = self.steps
        self.forget_slide()
        # In the order of the moves each block finds its new cells free, but for its own.
        for name, start, size, to in steps:
            self.settle(name, to)

    def done_copies(self):
        """How many copies of the slide under way are done, None where none is."""
        if self.copies == []:
            return None
        return self.copied

    def slide(self, moves):
        """Do the slides of moves at once; how many copies they have."""
        many = self.begin(moves)
        if many > 0:
            self.go_on(many)
        return many
