"""The interface: every name with its arguments, and which class stands under which."""

import importlib
import inspect
import unittest

FUNCTIONS = """
words: is_whole(thing) is_within(thing,low,high) is_name(thing) is_value(thing)
layouttexts: write_layout(layout) read_layout(text)
holes: holes_of(layout) is_book(layout,told)
finding: is_found(word,holes,mark,size,told)
halves: wholes_of(many) rounded(size) is_piece(many,start,size) pieces_of(many,taken)
ruling: rule_of(word,many,mark=0)
copies: copies_of(start,size,to) is_clean(copies) carried(cells,copies,first=0,behind=None)
moves: steps_of(layout,moves) slid(layout,moves)
prices: gaps_of(layout) prices(layout,size) is_prices(layout,size,told) stretches_of(layout)
plans: plan(layout,size) price_of(layout,size,moves) is_stuck(layout,size,told)
packing: packed(layout,way='down') fewest_holes(layout) tidied(layout) is_tidied(layout,told)
waste: fraction(top,bottom) added(one,other) is_less(one,other)
waste: outer_waste(holes) inner_waste(rows) waste_of(memory)
asks: need_asks(asks)
races: trail(word,many,asks) race(many,asks) fewest(told)
trails: is_trail(word,many,asks,told)
lines: read_number(word) read_line(line) write_line(parts)
lines: write_stretches(rows) write_moves(moves) write_blocks(rows)
"""

RULE = """
rule_word() mark() order() holes() largest_hole() free_cells() look(size) used_by(size) take(size) put(start,size)
give(start,size)
"""
MEMORY = """
take(name,size) give(name) pin(name) unpin(name) blocks() layout() pin_count(name) handle(name) rule_word() holes()
order() largest_hole() free_cells() mark() look(size) used_by(size) read(name,at) write(name,at,value) cell_of(name,at)
values_of(name) need_still() settle(name,to) lies_at(name,at) stand(layout,mark=0)
"""
SLIDER = "begin(moves) slide(moves) go_on(most=1) done_copies()"
ROOM = "pack(way='down') tidy() plan_for(size) make_room(size) fit(name,size)"
PAPER = "brings() price() gap() hole() slides() counted()"

# The module, the class and how it is made, and its methods; a class made by others alone has no brackets.
CLASSES = [
    ("layouts", "Layout(many,rows)", "blocks() names() block(name) free_cells() moved(name,to)"),
    ("holes", "Holes(many)",
     "told() largest_hole() free_cells() has(start,size) hole_at(cell) take(start,size) give(start,size)"),
    ("rules", "Rule", "take(size) look(size)"),
    ("rules", "First(many)", RULE),
    ("rules", "Tightest(many)", RULE),
    ("rules", "Next(many,mark=0)", RULE),
    ("halves", "Halves(many)", RULE + "taken()"),
    ("memory", "Memory(many,word='first')", MEMORY),
    ("handles", "Handle",
     "block_name() is_there() block_size() block_start() read(at) write(at,value) all_values() reader()"),
    ("sliding", "Slider(many,word='first')", MEMORY + SLIDER),
    ("plans", "Paper", PAPER),
    ("plans", "Plan", PAPER),
    ("plans", "Stuck", PAPER),
    ("room", "Room(many,word='first')", MEMORY + SLIDER + " " + ROOM),
    ("desk", "Desk()", "answer(line)"),
]

ERRORS = """
NoMany(many) NoName(name) NoSize(size) NoPlace(at) NoValue(value) NoRow(row) Twice(name) Outside(name)
Overlap(name,other) TooMany(many) NoBlock(name) NoText(row) NotFree(start,size) NotTaken(start,size)
NoHole(size,largest) NoRule(word) Pinned(name,pins) NotPinned(name) Gone(name) NoMoves(moves) NoSlide(name,to)
Sliding(copied) NotSliding() Fixed(word) NoRoom(size,stretches) NoWay(way) NoAsks(at) NoLine(line)
"""

BASES = {
    "rules.First": "Rule", "rules.Tightest": "Rule", "rules.Next": "Rule", "halves.Halves": "Rule",
    "sliding.Slider": "Memory", "room.Room": "Slider", "plans.Plan": "Paper", "plans.Stuck": "Paper",
}


def told_of(name):
    """What a module's dotted name stands for."""
    module, _, name = name.partition(".")
    return getattr(importlib.import_module(f"slideroom.{module}"), name)


def written(name, call, leaves=0):
    """A name and its arguments as they are written here, but for the first ones that are left away."""
    arguments = list(inspect.signature(call).parameters.values())[leaves:]
    return name + "(" + ",".join(str(argument) for argument in arguments) + ")"


class InterfaceTest(unittest.TestCase):
    def test_functions(self):
        for line in FUNCTIONS.strip().split("\n"):
            module, _, calls = line.partition(": ")
            for call in calls.split(" "):
                name = call.partition("(")[0]
                self.assertEqual(written(name, told_of(f"{module}.{name}")), call)

    def test_classes_and_their_methods(self):
        for module, made, methods in CLASSES:
            name, brackets, _ = made.partition("(")
            one = told_of(f"{module}.{name}")
            self.assertTrue(inspect.isclass(one))
            if brackets:
                self.assertEqual(written(name, one), made)
            for method in methods.split():
                name = method.partition("(")[0]
                self.assertEqual(written(name, getattr(one, name), 1), method, made)

    def test_errors(self):
        root = told_of("errors.RoomError")
        self.assertEqual(root.__bases__, (ValueError,))
        for made in ERRORS.split():
            name = made.partition("(")[0]
            one = told_of(f"errors.{name}")
            self.assertEqual(one.__bases__, (root,))
            if made.endswith("()"):
                self.assertEqual(vars(one()), {})
            else:
                self.assertEqual(written(name, one), made)

    def test_which_class_stands_under_which(self):
        for name, base in BASES.items():
            self.assertEqual([one.__name__ for one in told_of(name).__bases__], [base])


if __name__ == "__main__":
    unittest.main()
