"""[51] to [55], [57] to [59]: the memory."""

import random
import unittest

from slideroom.errors import (
    NoBlock, NoHole, NoMany, NoName, NoPlace, NoRule, NoSize, NotFree, NotPinned, NoValue, Pinned, RoomError, TooMany,
    Twice,
)
from slideroom.handles import Handle
from slideroom.layouts import Layout
from slideroom.memory import Memory
from memories import (
    SLIDING_WORDS, WORDS, filled, found_made_anew, holes_made_anew, order_made_anew, state, taken_as,
)
from things import not_whole, refusal, same, things

BIG = 10 ** 60 - 1
NO_NAMES = [thing for thing in things() if thing not in ["a", "box", "first", "tightest", "next", "halves"]] + [
    "Box", "7a", "a b", "a_b", "abcdefghi", "a\n", " a", "a ", ["a"], ("a",), {"a": 0},
]
NO_SIZES = not_whole() + [0, -1, -BIG]


def memories(*rows, many=16):
    """A memory by each rule, with blocks of these names and sizes."""
    return [taken_as(Memory(many, word), *rows) for word in WORDS]


class MadeTest(unittest.TestCase):
    def test_by_each_word(self):
        for word in WORDS:
            for many in [16, 17, 240]:
                memory = Memory(many, word)
                self.assertTrue(same(memory.many, many))
                self.assertEqual(memory.rule_word(), word)
                self.assertTrue(same(memory.blocks(), []))
                self.assertEqual((memory.layout().many, memory.layout().blocks()), (many, []))
                self.assertTrue(same(memory.mark(), 0))
                self.assertTrue(same(memory.free_cells(), many))
                self.assertTrue(same(memory.held, [0] * many))
                self.assertEqual(memory.holes(), [(0, 16), (16, 1)] if (word, many) == ("halves", 17) else
                                 holes_made_anew(memory))

    def test_the_word_may_be_left_out(self):
        self.assertEqual(Memory(16).rule_word(), "first")

    def test_refused(self):
        for word in WORDS:
            for thing in not_whole() + [15, 241, 0, -16, BIG, -BIG]:
                self.assertIs(refusal(NoMany, Memory, thing, word).many, thing)
        for thing in things():
            if thing not in WORDS:
                self.assertIs(refusal(NoRule, Memory, 16, thing).word, thing)

    def test_the_word_goes_first(self):
        for thing in [None, "best", [], {}, True]:
            self.assertIs(refusal(NoRule, Memory, 15, thing).word, thing)

    def test_two_are_apart(self):
        for word in WORDS:
            one = Memory(16, word)
            other = Memory(16, word)
            before = state(other)
            one.take("a", 3)
            one.write("a", 0, 5)
            one.pin("a")
            one.held[9] = 3
            self.assertEqual(state(other), before)


class TakeTest(unittest.TestCase):
    def test_first(self):
        memory = taken_as(Memory(16), ("a", 3), ("b", 2), ("c", 4))
        memory.give("b")
        self.assertTrue(same(memory.look(2), (3, [])))
        self.assertTrue(same(memory.look(3), (9, [(3, 2)])))
        memory.take("d", 3)
        memory.take("e", 1)
        self.assertTrue(same(memory.blocks(), [("a", 0, 3, 0), ("e", 3, 1, 0), ("c", 5, 4, 0), ("d", 9, 3, 0)]))
        self.assertEqual(memory.holes(), [(4, 1), (12, 4)])

    def test_tightest(self):
        memory = taken_as(Memory(16, "tightest"), ("a", 4), ("b", 1), ("c", 2), ("d", 1))
        memory.give("a")
        memory.give("c")
        self.assertEqual(memory.order(), [(5, 2), (0, 4), (8, 8)])
        self.assertTrue(same(memory.look(3), (0, [(5, 2)])))
        memory.take("e", 1)
        memory.take("f", 5)
        self.assertEqual(memory.blocks(), [("b", 4, 1, 0), ("e", 5, 1, 0), ("d", 7, 1, 0), ("f", 8, 5, 0)])

    def test_next(self):
        memory = taken_as(Memory(16, "next"), ("a", 3), ("b", 2), ("c", 4))
        self.assertEqual(memory.mark(), 9)
        memory.give("a")
        memory.give("b")
        memory.take("d", 1)
        self.assertEqual(memory.blocks(), [("c", 5, 4, 0), ("d", 9, 1, 0)])
        self.assertEqual(memory.mark(), 10)
        memory.take("e", 6)
        self.assertEqual(memory.mark(), 16)
        memory.take("f", 2)
        self.assertEqual(memory.blocks()[0], ("f", 0, 2, 0))

    def test_halves(self):
        memory = taken_as(Memory(16, "halves"), ("a", 3), ("b", 2), ("c", 5))
        self.assertEqual(memory.blocks(), [("a", 0, 3, 0), ("b", 4, 2, 0), ("c", 8, 5, 0)])
        self.assertEqual(memory.holes(), [(6, 2)])
        self.assertEqual((memory.free_cells(), memory.largest_hole()), (2, 2))
        told = refusal(NoHole, memory.take, "d", 3)
        self.assertTrue(same((told.size, told.largest), (3, 2)))

    def test_the_rest_of_a_piece_is_in_no_block_and_in_no_hole(self):
        memory = taken_as(Memory(16, "halves"), ("a", 5))
        self.assertEqual(memory.holes(), [(8, 8)])
        self.assertEqual(memory.layout().free_cells(), 11)
        self.assertEqual(memory.free_cells(), 8)
        memory.give("a")
        self.assertEqual(memory.holes(), [(0, 16)])

    def test_the_answer_is_a_handle(self):
        for memory in memories():
            handle = memory.take("a", 3)
            self.assertIs(type(handle), Handle)
            self.assertEqual((handle.block_name(), handle.block_size(), handle.block_start()), ("a", 3, 0))

    def test_all_cells_read_nought(self):
        for memory in memories(("a", 16)):
            filled(memory)
            memory.give("a")
            for name, size in [("b", 1), ("c", 4), ("d", 8)]:
                memory.take(name, size)
                self.assertTrue(same(memory.values_of(name), [0] * size))

    def test_only_its_own_cells_are_cleared(self):
        for memory in memories(("a", 4), ("b", 8), ("c", 4)):
            filled(memory)
            memory.give("b")
            before = list(memory.held)
            start = memory.take("d", 3).block_start()
            self.assertNotEqual(before[start:start + 3], [0, 0, 0])
            self.assertEqual(memory.held, before[:start] + [0, 0, 0] + before[start + 3:])

    def test_all_cells(self):
        for word in WORDS:
            memory = taken_as(Memory(16, word), ("a", 16))
            self.assertEqual((memory.holes(), memory.largest_hole(), memory.free_cells()), ([], 0, 0))
            told = refusal(NoHole, memory.take, "b", 1)
            self.assertTrue(same((told.size, told.largest), (1, 0)))

    def test_no_name(self):
        for memory in memories(("box", 3)):
            before = state(memory)
            for thing in NO_NAMES:
                self.assertIs(refusal(NoName, memory.take, thing, 1).name, thing)
                self.assertIs(refusal(NoName, memory.take, thing, None).name, thing)
            self.assertEqual(state(memory), before)

    def test_twice(self):
        for memory in memories(("box", 3)):
            before = state(memory)
            for size in [1, 0, 99, None, True]:
                self.assertEqual(refusal(Twice, memory.take, "box", size).name, "box")
            self.assertEqual(state(memory), before)

    def test_no_size(self):
        for memory in memories(("box", 3)) + memories(("box", 16)):
            before = state(memory)
            for thing in NO_SIZES:
                self.assertIs(refusal(NoSize, memory.take, "a", thing).size, thing)
            self.assertEqual(state(memory), before)

    def test_no_hole(self):
        for word in WORDS:
            memory = taken_as(Memory(16, word), ("a", 4), ("b", 4), ("c", 2))
            memory.give("a")
            before = state(memory)
            for size in [7, 8, 10, 16, 17, 240, 241, 10 ** 30, BIG]:
                told = refusal(NoHole, memory.take, "d", size)
                self.assertTrue(same((told.size, told.largest), (size, 4 if word == "halves" else 6)))
            self.assertEqual(state(memory), before)

    def test_forty_blocks(self):
        for word in WORDS:
            memory = Memory(240, word)
            for at in range(40):
                memory.take(f"b{at}", 1)
            self.assertEqual(len(memory.blocks()), 40)
            before = state(memory)
            for size in [1, 201, 10 ** 30]:
                self.assertTrue(same(refusal(TooMany, memory.take, "c", size).many, 40))
            for thing in [True, 0, -1]:
                self.assertIs(refusal(NoSize, memory.take, "c", thing).size, thing)
            self.assertEqual(refusal(Twice, memory.take, "b7", True).name, "b7")
            self.assertEqual(refusal(NoName, memory.take, "C", True).name, "C")
            self.assertEqual(state(memory), before)
            self.assertTrue(same(memory.look(1), found_made_anew(memory, memory.mark(), 1)))
            memory.give("b7")
            memory.take("c", 1)
            self.assertEqual(refusal(TooMany, memory.take, "b7", 1).many, 40)

    def test_a_name_taken_again(self):
        for memory in memories(("a", 3), ("b", 2)):
            memory.pin("a")
            memory.unpin("a")
            memory.give("a")
            memory.take("a", 2)
            self.assertEqual(len(memory.blocks()), 2)
            self.assertEqual(memory.pin_count("a"), 0)
            self.assertEqual(memory.values_of("a"), [0, 0])
            self.assertEqual(refusal(Twice, memory.take, "a", 1).name, "a")

    def test_the_mark_is_turned_by_takings_alone(self):
        memory = taken_as(Memory(16, "next"), ("a", 3), ("b", 4))
        self.assertEqual(memory.mark(), 7)
        deeds = [
            (memory.pin, "b"), (memory.unpin, "b"), (memory.give, "a"), (memory.look, 2), (memory.write, "b", 1, 4),
            (memory.read, "b", 1), (memory.used_by, 5), (memory.settle, "b", 9), (memory.order,), (memory.blocks,),
        ]
        for deed, *handed in deeds:
            deed(*handed)
            self.assertTrue(same(memory.mark(), 7))
        for error, *handed in [(NoHole, "c", 17), (NoSize, "c", 0), (Twice, "b", 1), (NoName, 1, 1)]:
            refusal(error, memory.take, *handed)
            self.assertEqual(memory.mark(), 7)
        memory.take("c", 5)
        self.assertEqual((memory.mark(), memory.blocks()[0]), (5, ("c", 0, 5, 0)))

    def test_the_mark_of_the_others(self):
        for word in ["first", "tightest", "halves"]:
            self.assertTrue(same(taken_as(Memory(16, word), ("a", 3), ("b", 4)).mark(), 0))


class GiveTest(unittest.TestCase):
    def test_given_back(self):
        for memory in memories(("a", 4), ("b", 4), ("c", 4)):
            self.assertIsNone(memory.give("b"))
            self.assertEqual(memory.blocks(), [("a", 0, 4, 0), ("c", 8, 4, 0)])
            self.assertEqual(memory.holes(), [(4, 4), (12, 4)])
            refusal(NoBlock, memory.give, "b")
            memory.give("c")
            self.assertEqual(memory.free_cells(), 12)
            memory.give("a")
            self.assertEqual((memory.blocks(), memory.holes()), ([], [(0, 16)]))

    def test_pinned(self):
        for memory in memories(("a", 3), ("b", 2)):
            self.assertTrue(same(memory.pin("a"), 1))
            self.assertTrue(same(memory.pin("a"), 2))
            before = state(memory)
            told = refusal(Pinned, memory.give, "a")
            self.assertTrue(same((told.name, told.pins), ("a", 2)))
            self.assertEqual(state(memory), before)
            self.assertTrue(same(memory.unpin("a"), 1))
            told = refusal(Pinned, memory.give, "a")
            self.assertTrue(same((told.name, told.pins), ("a", 1)))
            self.assertTrue(same(memory.unpin("a"), 0))
            memory.give("a")
            self.assertEqual([row[0] for row in memory.blocks()], ["b"])

    def test_pins_are_counted(self):
        for memory in memories(("a", 3), ("b", 2)):
            for count in range(1, 1001):
                self.assertEqual(memory.pin("a"), count)
            self.assertEqual((memory.pin_count("a"), memory.pin_count("b")), (1000, 0))
            self.assertEqual(memory.blocks()[0], ("a", 0, 3, 1000))
            for count in range(999, -1, -1):
                self.assertEqual(memory.unpin("a"), count)
            self.assertTrue(same(memory.pin_count("a"), 0))

    def test_not_pinned(self):
        for memory in memories(("a", 3), ("b", 2)):
            memory.pin("b")
            before = state(memory)
            self.assertEqual(refusal(NotPinned, memory.unpin, "a").name, "a")
            self.assertEqual(state(memory), before)
            memory.unpin("b")
            self.assertEqual(refusal(NotPinned, memory.unpin, "b").name, "b")

    def test_no_block_of_any_thing(self):
        for memory in memories(("box", 3)):
            memory.pin("box")
            before = state(memory)
            for thing in NO_NAMES + ["a", "b7", "first"]:
                for asked in [memory.give, memory.pin, memory.unpin, memory.pin_count, memory.handle]:
                    self.assertIs(refusal(NoBlock, asked, thing).name, thing)
            self.assertEqual(state(memory), before)


class ToldTest(unittest.TestCase):
    def test_blocks_and_layout_by_rising_starts(self):
        for memory in memories(("c", 4), ("b", 4), ("a", 8)):
            memory.pin("b")
            memory.give("c")
            memory.take("z", 2)
            told = [("z", 0, 2, 0), ("b", 4, 4, 1), ("a", 8, 8, 0)]
            self.assertTrue(same(memory.blocks(), told))
            layout = memory.layout()
            self.assertIs(type(layout), Layout)
            self.assertTrue(same((layout.many, layout.blocks()), (16, told)))

    def test_a_told_layout_stays(self):
        for memory in memories(("a", 3), ("b", 2)):
            layout = memory.layout()
            told = layout.blocks()
            memory.pin("a")
            memory.give("b")
            memory.take("c", 2)
            self.assertEqual(layout.blocks(), told)

    def test_what_the_rule_tells(self):
        memory = taken_as(Memory(16, "tightest"), ("a", 2), ("b", 4), ("c", 7))
        memory.give("b")
        self.assertTrue(same(memory.holes(), [(2, 4), (13, 3)]))
        self.assertTrue(same(memory.order(), [(13, 3), (2, 4)]))
        self.assertTrue(same((memory.largest_hole(), memory.free_cells()), (4, 7)))
        self.assertTrue(same(memory.look(4), (2, [(13, 3)])))

    def test_used_by(self):
        for word in WORDS:
            memory = taken_as(Memory(16, word), ("a", 16))
            for size, rounded in [(1, 1), (2, 2), (3, 4), (5, 8), (9, 16), (17, 32), (240, 256)]:
                self.assertTrue(same(memory.used_by(size), rounded if word == "halves" else size))
            for thing in NO_SIZES:
                self.assertIs(refusal(NoSize, memory.used_by, thing).size, thing)

    def test_look_is_refused(self):
        for memory in memories(("a", 4)):
            for thing in NO_SIZES:
                self.assertIs(refusal(NoSize, memory.look, thing).size, thing)
            largest = memory.largest_hole()
            for size in [13, 16, 17, BIG]:
                told = refusal(NoHole, memory.look, size)
                self.assertTrue(same((told.size, told.largest), (size, largest)))

    def test_nothing_is_changed(self):
        for memory in memories(("a", 4), ("b", 4)):
            filled(memory)
            memory.give("a")
            before = state(memory)
            for asked in [
                memory.blocks, memory.layout, memory.rule_word, memory.holes, memory.order, memory.largest_hole,
                memory.free_cells, memory.mark,
            ]:
                asked()
            memory.look(2)
            memory.used_by(2)
            memory.pin_count("b")
            memory.handle("b")
            memory.values_of("b")
            memory.cell_of("b", 1)
            self.assertEqual(state(memory), before)

    def test_told_lists_are_the_askers_own(self):
        for memory in memories(("a", 4), ("b", 4)):
            memory.give("a")
            before = state(memory)
            for told in [
                memory.blocks(), memory.layout().blocks(), memory.holes(), memory.order(), memory.look(8)[1],
                memory.values_of("b"),
            ]:
                told.append(7)
                told.reverse()
                told.pop()
            self.assertEqual(state(memory), before)


class CellsTest(unittest.TestCase):
    def test_written_and_read(self):
        for memory in memories(("a", 4), ("b", 3)):
            for value in [0, 1, -1, 10 ** 30 - 1, -(10 ** 30 - 1), 10 ** 29, -(10 ** 29)]:
                for at in range(3):
                    self.assertIsNone(memory.write("b", at, value))
                    self.assertTrue(same(memory.read("b", at), value))
                    self.assertTrue(same(memory.held[4 + at], value))
            self.assertEqual(memory.values_of("a"), [0] * 4)

    def test_all_values(self):
        for memory in memories(("a", 4), ("b", 3)):
            filled(memory)
            self.assertTrue(same(memory.values_of("a"), [1000, 1001, 1002, 1003]))
            self.assertTrue(same(memory.values_of("b"), [2000, 2001, 2002]))
            memory.write("b", 1, -5)
            self.assertTrue(same(memory.values_of("b"), [2000, -5, 2002]))

    def test_in_which_cell(self):
        for memory in memories(("a", 4), ("b", 3)):
            self.assertTrue(same([memory.cell_of("a", at) for at in range(4)], [0, 1, 2, 3]))
            self.assertTrue(same([memory.cell_of("b", at) for at in range(3)], [4, 5, 6]))

    def ways(self, memory):
        return [memory.read, memory.cell_of, lambda name, at: memory.write(name, at, 5)]

    def test_the_edges(self):
        for memory in memories(("a", 4), ("b", 3), ("c", 1)):
            before = state(memory)
            for name, size in [("a", 4), ("b", 3), ("c", 1)]:
                for asked in self.ways(memory)[:2]:
                    asked(name, 0)
                    asked(name, size - 1)
                for asked in self.ways(memory):
                    for at in [-1, size, size + 1, BIG, -BIG]:
                        self.assertEqual(refusal(NoPlace, asked, name, at).at, at)
            self.assertEqual(state(memory), before)

    def test_at_of_any_thing(self):
        for memory in memories(("a", 4)):
            before = state(memory)
            for thing in not_whole():
                for asked in self.ways(memory):
                    self.assertIs(refusal(NoPlace, asked, "a", thing).at, thing)
            self.assertEqual(state(memory), before)

    def test_no_block(self):
        for memory in memories(("box", 4)):
            before = state(memory)
            for thing in NO_NAMES + ["a"]:
                for at in [0, -1, None]:
                    for asked in self.ways(memory):
                        self.assertIs(refusal(NoBlock, asked, thing, at).name, thing)
                    self.assertIs(refusal(NoBlock, memory.write, thing, at, None).name, thing)
                self.assertIs(refusal(NoBlock, memory.values_of, thing).name, thing)
            self.assertEqual(state(memory), before)

    def test_no_value(self):
        for memory in memories(("a", 4)):
            filled(memory)
            before = state(memory)
            for thing in not_whole() + [10 ** 30, -(10 ** 30), BIG, -BIG]:
                self.assertIs(refusal(NoValue, memory.write, "a", 3, thing).value, thing)
                self.assertEqual(refusal(NoPlace, memory.write, "a", 4, thing).at, 4)
                self.assertIs(refusal(NoPlace, memory.write, "a", True, thing).at, True)
            self.assertEqual(state(memory), before)


LAYOUT = Layout(16, [("b", 8, 3, 0), ("a", 2, 2, 2), ("c", 15, 1, 1)])


class StandTest(unittest.TestCase):
    def test_blocks_and_holes(self):
        for word in WORDS:
            memory = Memory(16, word)
            self.assertIsNone(memory.stand(LAYOUT))
            self.assertTrue(same(memory.blocks(), [("a", 2, 2, 2), ("b", 8, 3, 0), ("c", 15, 1, 1)]))
            self.assertEqual(memory.layout().blocks(), LAYOUT.blocks())
            self.assertEqual(memory.rule_word(), word)
            self.assertTrue(same(memory.held, [0] * 16))
            self.assertEqual(memory.pin_count("a"), 2)
            if word == "halves":
                self.assertEqual(memory.holes(), [(0, 2), (4, 4), (12, 2), (14, 1)])
            else:
                self.assertEqual(memory.holes(), [(0, 2), (4, 4), (11, 4)])

    def test_the_blocks_are_blocks(self):
        for word in WORDS:
            memory = Memory(16, word)
            memory.stand(LAYOUT)
            memory.handle("b").write(1, 7)
            self.assertEqual(memory.values_of("b"), [0, 7, 0])
            self.assertEqual(refusal(Pinned, memory.give, "a").pins, 2)
            self.assertEqual(memory.unpin("c"), 0)
            memory.give("c")
            memory.give("b")
            self.assertEqual([row[0] for row in memory.blocks()], ["a"])
            self.assertEqual(LAYOUT.names(), ["a", "b", "c"])

    def test_all_cells_read_nought(self):
        for word in WORDS:
            memory = filled(taken_as(Memory(16, word), ("z", 16)))
            memory.give("z")
            memory.stand(LAYOUT)
            for name in LAYOUT.names():
                self.assertEqual(set(memory.values_of(name)), {0})

    def test_a_layout_without_blocks(self):
        for word in WORDS:
            memory = Memory(16, word)
            memory.stand(Layout(16, []))
            self.assertEqual((memory.blocks(), memory.holes()), ([], [(0, 16)]))
            memory.stand(LAYOUT)
            self.assertEqual(len(memory.blocks()), 3)

    def test_forty_blocks(self):
        rows = [(f"b{at}", 2 * at, 1, 0) for at in range(40)]
        for word in WORDS:
            memory = Memory(240, word)
            memory.stand(Layout(240, rows))
            self.assertEqual(memory.blocks(), rows)
            self.assertEqual(refusal(TooMany, memory.take, "c", 1).many, 40)

    def test_marks(self):
        for mark in [0, 1, 9, 16]:
            memory = Memory(16, "next")
            memory.stand(LAYOUT, mark)
            self.assertTrue(same(memory.mark(), mark))
            self.assertEqual(memory.order(), order_made_anew(memory, mark))
        memory = Memory(16, "next")
        memory.stand(LAYOUT, 11)
        self.assertTrue(same(memory.look(2), (11, [])))

    def test_without_a_mark_it_is_nought(self):
        memory = taken_as(Memory(16, "next"), ("a", 3))
        memory.give("a")
        self.assertEqual(memory.mark(), 3)
        memory.stand(LAYOUT)
        self.assertTrue(same(memory.mark(), 0))

    def test_no_mark(self):
        for word in WORDS:
            memory = Memory(16, word)
            before = state(memory)
            wrong = not_whole() + [-1, 17, 240, BIG, -BIG] + ([] if word == "next" else [1, 2, 16])
            for thing in wrong:
                self.assertIs(refusal(NoPlace, memory.stand, LAYOUT, thing).at, thing)
            self.assertEqual(state(memory), before)

    def test_another_number_of_cells(self):
        for word in WORDS:
            for memory in [Memory(32, word), taken_as(Memory(32, word), ("a", 1))]:
                before = state(memory)
                for many in [16, 31, 33, 240]:
                    layout = Layout(many, [("x", 1, 3, 0)])
                    for mark in [0, -1, None]:
                        self.assertTrue(same(refusal(NoMany, memory.stand, layout, mark).many, many))
                self.assertEqual(state(memory), before)

    def test_a_memory_that_has_blocks(self):
        for word in WORDS:
            memory = Memory(16, word)
            for count, name in enumerate("abc", 1):
                memory.take(name, 2)
                before = state(memory)
                for layout in [LAYOUT, Layout(16, []), Layout(16, [("x", 1, 3, 0)])]:
                    for mark in [0, -1, None, True]:
                        self.assertTrue(same(refusal(TooMany, memory.stand, layout, mark).many, count))
                self.assertEqual(state(memory), before)

    def test_by_halves_no_piece_or_not_free(self):
        for rows, start, size in [
            ([("a", 1, 2, 0)], 1, 2), ([("a", 2, 3, 0)], 2, 3), ([("a", 4, 3, 0), ("b", 7, 1, 0)], 7, 1),
            ([("b", 6, 2, 0), ("a", 0, 5, 0)], 6, 2), ([("a", 0, 9, 0), ("b", 9, 7, 0)], 9, 7),
            ([("c", 13, 3, 0), ("b", 3, 2, 0), ("a", 0, 2, 1)], 3, 2), ([("a", 12, 4, 0), ("b", 8, 4, 0),
                                                                         ("c", 1, 2, 0)], 1, 2),
        ]:
            memory = Memory(16, "halves")
            memory.held[3] = 9
            before = state(memory)
            told = refusal(NotFree, memory.stand, Layout(16, rows))
            self.assertTrue(same((told.start, told.size), (start, size)))
            self.assertIs(refusal(NoPlace, memory.stand, Layout(16, rows), False).at, False)
            self.assertEqual(state(memory), before)
            for word in SLIDING_WORDS:
                other = Memory(16, word)
                other.stand(Layout(16, rows))
                self.assertEqual(other.layout().blocks(), Layout(16, rows).blocks())

    def test_by_halves_beyond_the_wholes(self):
        memory = Memory(17, "halves")
        told = refusal(NotFree, memory.stand, Layout(17, [("a", 15, 2, 0)]))
        self.assertTrue(same((told.start, told.size), (15, 2)))
        memory.stand(Layout(17, [("a", 16, 1, 0)]))
        self.assertEqual(memory.holes(), [(0, 16)])

    def test_behind_a_refusal_it_can_stand(self):
        memory = Memory(16, "next")
        refusal(NoPlace, memory.stand, LAYOUT, 17)
        memory.stand(LAYOUT, 16)
        self.assertEqual((memory.mark(), len(memory.blocks())), (16, 3))


class DeedsTest(unittest.TestCase):
    """[58], and of [6] what speaks of blocks, of the book of holes and of where a new block comes to lie."""

    def test_rows_of_deeds(self):
        for word in WORDS:
            for seed in range(6):
                chance = random.Random(58 + seed)
                self.check_deeds(Memory(chance.choice([16, 29, 64, 240]), word), chance)

    def check_deeds(self, memory, chance):
        self.written = {}
        self.pins = {}
        self.mark = 0
        for _ in range(150):
            name = chance.choice("abcdefghij")
            deed = chance.randrange(8)
            if deed < 3:
                self.take(memory, name, chance.choice([1, 2, 3, 4, 5, 7, 9, memory.many // 3, memory.many]))
            elif deed == 3:
                self.give(memory, name)
            elif deed == 4 and name in self.pins:
                self.pins[name] += 1
                self.assertEqual(memory.pin(name), self.pins[name])
            elif deed == 5 and self.pins.get(name):
                self.pins[name] -= 1
                self.assertEqual(memory.unpin(name), self.pins[name])
            elif name in self.pins:
                at = chance.randrange(len(self.written[name]))
                self.written[name][at] = chance.randint(-9, 9)
                memory.write(name, at, self.written[name][at])
            if not self.pins and chance.randrange(4) == 0:
                self.stand(memory, chance)
            self.check(memory)

    def take(self, memory, name, size):
        found = found_made_anew(memory, self.mark, size)
        largest = max([hole[1] for hole in holes_made_anew(memory)], default=0)
        if name in self.pins:
            self.assertEqual(refusal(Twice, memory.take, name, size).name, name)
        elif found is None:
            for told in [refusal(NoHole, memory.look, size), refusal(NoHole, memory.take, name, size)]:
                self.assertEqual((told.size, told.largest), (size, largest))
        else:
            self.assertEqual(memory.look(size), found)
            self.assertEqual(memory.take(name, size).block_start(), found[0])
            self.written[name] = [0] * size
            self.pins[name] = 0
            self.mark = found[0] + size if memory.rule_word() == "next" else 0

    def give(self, memory, name):
        if name not in self.pins:
            self.assertEqual(refusal(NoBlock, memory.give, name).name, name)
        elif self.pins[name] > 0:
            self.assertEqual(refusal(Pinned, memory.give, name).pins, self.pins[name])
        else:
            memory.give(name)
            self.pins.pop(name)
            self.written.pop(name)

    def stand(self, memory, chance):
        start = 4 * chance.randrange(memory.many // 4)
        self.mark = chance.randint(0, memory.many) if memory.rule_word() == "next" else 0
        memory.stand(Layout(memory.many, [("j", start, 3, 1)]), self.mark)
        self.written = {"j": [0, 0, 0]}
        self.pins = {"j": 1}

    def check(self, memory):
        blocks = memory.blocks()
        self.assertEqual(sorted(row[1] for row in blocks), [row[1] for row in blocks])
        self.assertEqual({row[0]: row[3] for row in blocks}, self.pins)
        self.assertEqual({row[0]: memory.values_of(row[0]) for row in blocks}, self.written)
        cells = [cell for _, start, size, _ in blocks for cell in range(start, start + size)]
        self.assertEqual(len(cells), len(set(cells)))
        self.assertEqual(memory.layout().blocks(), blocks)
        holes = holes_made_anew(memory)
        self.assertTrue(same(memory.holes(), holes))
        self.assertTrue(same(memory.order(), order_made_anew(memory, self.mark)))
        self.assertEqual(memory.largest_hole(), max([hole[1] for hole in holes], default=0))
        self.assertEqual(memory.free_cells(), sum(hole[1] for hole in holes))
        self.assertEqual(memory.mark(), self.mark)

    def test_the_book_does_not_hang_on_the_order(self):
        for word in WORDS:
            chance = random.Random(6)
            memory = Memory(64, word)
            names = []
            for at in range(60):
                if len(names) > 3 and chance.randrange(2):
                    memory.give(names.pop(chance.randrange(len(names))))
                elif memory.largest_hole() >= 8:
                    names.append(f"b{at}")
                    memory.take(names[-1], chance.randint(1, 8))
            again = Memory(64, word)
            again.stand(memory.layout(), memory.mark())
            self.assertGreater(len(names), 2)
            self.assertEqual(state(again)[:-2], state(memory)[:-2])


class StillError(RoomError):
    pass


class Watched(Memory):
    """A memory that counts how often it was asked whether it is still, and refuses while it is told to."""

    refuses = False
    asked = 0

    def need_still(self):
        Watched.asked += 1
        if Watched.refuses:
            raise StillError()


class Mirrored(Memory):
    """A memory whose blocks lie the other way about."""

    def lies_at(self, name, at):
        start = [row[1] for row in self.blocks() if row[0] == name][0]
        return self.many - 1 - start - at


CALLS_FIRST = {
    "take": ("b", 2), "give": ("a",), "pin": ("a",), "unpin": ("p",), "blocks": (), "layout": (), "pin_count": ("a",),
    "handle": ("a",), "holes": (), "order": (), "largest_hole": (), "free_cells": (), "look": (2,),
}
CALLS_NOT = {
    "read": ("a", 0), "write": ("a", 0, 5), "cell_of": ("a", 0), "values_of": ("a",), "rule_word": (), "mark": (),
    "used_by": (3,), "lies_at": ("a", 0), "settle": ("a", 8),
}


class StillTest(unittest.TestCase):
    """[59], need_still."""

    def setUp(self):
        Watched.refuses = False

    def watched(self, word):
        memory = taken_as(Watched(16, word), ("a", 3), ("p", 2))
        memory.pin("p")
        return memory

    def test_does_nothing_in_a_memory(self):
        for memory in memories(("a", 3)):
            before = state(memory)
            self.assertIsNone(memory.need_still())
            self.assertEqual(state(memory), before)

    def test_which_methods_call_it(self):
        for word in WORDS:
            for name, handed in list(CALLS_FIRST.items()) + list(CALLS_NOT.items()):
                memory = self.watched(word)
                Watched.asked = 0
                getattr(memory, name)(*handed)
                self.assertEqual(Watched.asked, 1 if name in CALLS_FIRST else 0, name)
            memory = Watched(16, word)
            Watched.asked = 0
            memory.stand(LAYOUT)
            self.assertEqual(Watched.asked, 1)

    def test_they_call_it_first_of_all(self):
        for word in WORDS:
            memory = self.watched(word)
            before = state(memory)
            for name, handed in list(CALLS_FIRST.items()) + [("stand", (LAYOUT, 0))]:
                Watched.refuses = True
                with self.assertRaises(StillError):
                    getattr(memory, name)(*handed)
                for thing in things():
                    with self.assertRaises(StillError):
                        getattr(memory, name)(*[thing for _ in handed])
                Watched.refuses = False
                self.assertEqual(state(memory), before)

    def test_the_others_go_on(self):
        for word in WORDS:
            for name, handed in CALLS_NOT.items():
                memory = self.watched(word)
                Watched.refuses = True
                getattr(memory, name)(*handed)
                Watched.refuses = False

    def test_of_a_handle(self):
        for word in WORDS:
            memory = self.watched(word)
            handle = memory.handle("a")
            reader = handle.reader()
            Watched.refuses = True
            Watched.asked = 0
            self.assertEqual((handle.block_name(), handle.is_there(), handle.block_size()), ("a", True, 3))
            handle.write(1, 5)
            self.assertEqual((handle.read(1), handle.all_values(), reader(1), handle.reader()(1)), (5, [0, 5, 0], 5, 5))
            self.assertEqual(Watched.asked, 0)
            with self.assertRaises(StillError):
                handle.block_start()
            self.assertEqual(Watched.asked, 1)
            Watched.refuses = False
            self.assertEqual(handle.block_start(), 0)

    def test_making_one_does_not_call_it(self):
        Watched.refuses = True
        Watched(16)
        Watched.refuses = False


class LiesAtTest(unittest.TestCase):
    """[59], lies_at."""

    def test_where_a_cell_lies(self):
        for memory in memories(("a", 4), ("b", 3)):
            self.assertTrue(same([memory.lies_at("b", at) for at in range(3)], [4, 5, 6]))
            self.assertTrue(same(memory.lies_at("a", 3), 3))

    def test_all_goes_by_it(self):
        for word in WORDS:
            memory = Mirrored(16, word)
            handle = memory.take("a", 4)
            reader = handle.reader()
            self.assertEqual([memory.cell_of("a", at) for at in range(4)], [15, 14, 13, 12])
            memory.write("a", 0, 5)
            handle.write(3, 6)
            self.assertEqual(memory.held, [0] * 12 + [6, 0, 0, 5])
            self.assertEqual(memory.values_of("a"), [5, 0, 0, 6])
            memory.held[13] = 8
            self.assertEqual([memory.read("a", 2), handle.read(2), reader(2)], [8, 8, 8])
            self.assertEqual(handle.all_values(), [5, 0, 8, 6])

    def test_a_new_block_reads_nought_by_it(self):
        for word in WORDS:
            memory = Mirrored(16, word)
            memory.held = list(range(1, 17))
            self.assertEqual(memory.take("a", 4).all_values(), [0, 0, 0, 0])
            self.assertEqual(memory.held, list(range(1, 13)) + [0, 0, 0, 0])
            memory.give("a")
            memory.held = list(range(1, 17))
            memory.stand(LAYOUT)
            self.assertEqual(memory.values_of("b"), [0, 0, 0])


class SettleTest(unittest.TestCase):
    """[59], settle."""

    def test_a_block_starts_there(self):
        for memory in memories(("a", 4), ("b", 3)):
            memory.pin("a")
            handle = memory.handle("a")
            filled(memory)
            held = list(memory.held)
            self.assertIsNone(memory.settle("a", 12))
            self.assertEqual(memory.blocks(), [("b", 4, 3, 0), ("a", 12, 4, 1)])
            self.assertEqual(memory.held, held)
            self.assertEqual(memory.holes(), holes_made_anew(memory))
            self.assertEqual(handle.block_start(), 12)
            self.assertEqual(memory.cell_of("a", 3), 15)
            self.assertEqual(handle.all_values(), [0, 0, 0, 0])
            memory.settle("a", 0)
            self.assertEqual(handle.all_values(), held[:4])

    def test_onto_cells_of_its_own(self):
        for word in SLIDING_WORDS:
            memory = taken_as(Memory(16, word), ("a", 4), ("b", 3))
            memory.settle("b", 5)
            self.assertEqual((memory.blocks()[1], memory.holes()), (("b", 5, 3, 0), [(4, 1), (8, 8)]))
            memory.settle("b", 5)
            self.assertEqual((memory.blocks()[1], memory.holes()), (("b", 5, 3, 0), [(4, 1), (8, 8)]))

    def test_where_it_is_refused_nothing_is_changed(self):
        for memory in memories(("a", 4), ("b", 4)):
            before = state(memory)
            for to in [2, 4, 6, 15, 16, -1]:
                told = refusal(NotFree, memory.settle, "a", to)
                self.assertEqual((told.start, told.size), (to, 4))
                self.assertEqual(state(memory), before)


class HeldTest(unittest.TestCase):
    """[59], held."""

    def test_changed_from_outside(self):
        for memory in memories(("a", 4), ("b", 3)):
            handle = memory.handle("b")
            reader = handle.reader()
            memory.held[5] = 77
            self.assertEqual([memory.read("b", 1), handle.read(1), reader(1)], [77, 77, 77])
            self.assertEqual((memory.values_of("b"), handle.all_values()), ([0, 77, 0], [0, 77, 0]))
            memory.write("b", 1, 3)
            self.assertEqual(memory.held[5], 3)

    def test_exchanged_from_outside(self):
        for memory in memories(("a", 4), ("b", 3)):
            handle = memory.handle("b")
            reader = handle.reader()
            memory.held = list(range(100, 116))
            self.assertEqual(memory.values_of("a"), [100, 101, 102, 103])
            self.assertEqual((handle.all_values(), reader(2)), ([104, 105, 106], 106))
            handle.write(0, -1)
            self.assertEqual(memory.held[4], -1)
            memory.take("c", 1)
            self.assertEqual(memory.read("c", 0), 0)

    def test_it_is_the_very_list(self):
        for memory in memories(("a", 4)):
            held = memory.held
            memory.write("a", 2, 5)
            memory.take("b", 2)
            self.assertEqual(held[:4], [0, 0, 5, 0])
            held[0] = 9
            self.assertEqual(memory.read("a", 0), 9)


if __name__ == "__main__":
    unittest.main()
