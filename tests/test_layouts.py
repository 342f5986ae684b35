"""[2], [3], [4], [5], [13], [14]: layouts."""

import copy
import itertools
import random
import unittest

from slideroom.errors import NoBlock, NoMany, NoPlace, NoRow, Outside, Overlap, TooMany, Twice
from slideroom.layouts import Layout
from things import not_whole, refusal, same, things

BIG = 10 ** 60 - 1


def small_rows(count):
    return [(f"b{at}", at, 1, 0) for at in range(count)]


class MadeTest(unittest.TestCase):
    def test_how_many_cells(self):
        for many in [16, 17, 64, 239, 240]:
            self.assertEqual(Layout(many, []).many, many)
        for many in [15, 241, 0, -1, -16, BIG, -BIG]:
            self.assertEqual(refusal(NoMany, Layout, many, []).many, many)

    def test_many_of_another_kind(self):
        for thing in not_whole():
            self.assertIs(refusal(NoMany, Layout, thing, []).many, thing)

    def test_rows_that_are_no_list(self):
        for thing in things() + [(("a", 0, 1, 0),)]:
            if not isinstance(thing, list):
                self.assertIs(refusal(NoRow, Layout, 16, thing).row, thing)

    def test_forty_rows_and_forty_one(self):
        self.assertEqual(Layout(240, small_rows(40)).blocks(), small_rows(40))
        self.assertEqual(refusal(TooMany, Layout, 240, small_rows(41)).many, 41)
        self.assertEqual(refusal(TooMany, Layout, 240, [None] * 50).many, 50)

    def test_a_row_of_another_kind(self):
        for thing in things():
            if not same(thing, ("a", 0, 1, 0)):
                self.assertIs(refusal(NoRow, Layout, 16, [thing]).row, thing)

    def test_things_in_the_place_of_what_a_row_asks(self):
        good = ("a", 2, 3, 1)
        for at in range(4):
            for thing in things():
                row = good[:at] + (thing,) + good[at + 1:]
                if at == 0 and isinstance(thing, str) and thing[:1].islower() and " " not in thing:
                    self.assertEqual(Layout(16, [row]).blocks(), [row])
                elif at == 0 or type(thing) is not int or thing < [0, 0, 1, 0][at]:
                    self.assertIs(refusal(NoRow, Layout, 16, [row]).row, row)

    def test_the_least_numbers(self):
        self.assertEqual(Layout(16, [("a", 0, 1, 0)]).blocks(), [("a", 0, 1, 0)])
        for row in [("a", -1, 1, 0), ("a", 0, 0, 0), ("a", 0, 1, -1), ("a", 0, -1, 0)]:
            self.assertIs(refusal(NoRow, Layout, 16, [row]).row, row)

    def test_lists_and_tuples_of_other_lengths(self):
        for row in [["a", 0, 1, 0], ("a", 0, 1), ("a", 0, 1, 0, 0), (), "a010", {"a": 0}]:
            self.assertIs(refusal(NoRow, Layout, 16, [row]).row, row)

    def test_many_pins_are_let_by(self):
        self.assertEqual(Layout(16, [("a", 0, 1, 1000)]).block("a"), ("a", 0, 1, 1000))

    def test_outside(self):
        self.assertEqual(Layout(16, [("a", 0, 16, 0)]).free_cells(), 0)
        self.assertEqual(Layout(16, [("a", 15, 1, 0)]).free_cells(), 15)
        for start, size in [(0, 17), (1, 16), (15, 2), (16, 1), (BIG, 1), (0, BIG), (BIG, BIG)]:
            self.assertEqual(refusal(Outside, Layout, 16, [("a", start, size, 0)]).name, "a")

    def test_twice(self):
        rows = [("a", 0, 1, 0), ("b", 1, 1, 0), ("a", 2, 1, 0)]
        self.assertEqual(refusal(Twice, Layout, 16, rows).name, "a")

    def test_overlap_tells_the_first_row_ahead(self):
        ahead = [("late", 8, 4, 0), ("early", 2, 4, 0)]
        told = refusal(Overlap, Layout, 16, ahead + [("c", 4, 6, 0)])
        self.assertEqual((told.name, told.other), ("c", "late"))
        told = refusal(Overlap, Layout, 16, list(reversed(ahead)) + [("c", 4, 6, 0)])
        self.assertEqual((told.name, told.other), ("c", "early"))

    def test_blocks_side_by_side_share_no_cell(self):
        for other in [("b", 0, 4, 0), ("b", 7, 1, 0)]:
            self.assertEqual(len(Layout(16, [("a", 4, 3, 0), other]).blocks()), 2)

    def test_every_way_of_sharing_a_cell(self):
        for start, size in itertools.product(range(10), range(1, 7)):
            rows = [("a", 4, 3, 0), ("b", start, size, 0)]
            if start < 7 and start + size > 4:
                told = refusal(Overlap, Layout, 16, rows)
                self.assertEqual((told.name, told.other), ("b", "a"))
            else:
                Layout(16, rows)


class OrderOfRefusalsTest(unittest.TestCase):
    def test_many_ahead_of_rows(self):
        for rows in [None, [None] * 41, [None], [("a", 0, 99, 0)]]:
            self.assertEqual(refusal(NoMany, Layout, 15, rows).many, 15)

    def test_how_many_rows_ahead_of_each_row(self):
        self.assertEqual(refusal(TooMany, Layout, 16, [("a", 0, 99, 0)] * 41).many, 41)

    def test_the_first_row_goes_first(self):
        bad = [[], ("a", 0, 99, 0), ("b", 0, 1, 0)]
        self.assertIs(refusal(NoRow, Layout, 16, bad).row, bad[0])
        self.assertEqual(refusal(Outside, Layout, 16, bad[1:] + bad[:1]).name, "a")
        twice = [("a", 0, 1, 0), ("a", 5, 1, 0), None]
        self.assertEqual(refusal(Twice, Layout, 16, twice).name, "a")
        shared = [("a", 0, 2, 0), ("b", 1, 1, 0), ("a", 5, 1, 0)]
        self.assertEqual(refusal(Overlap, Layout, 16, shared).name, "b")

    def test_outside_ahead_of_twice_and_overlap(self):
        rows = [("a", 12, 4, 0), ("a", 12, 5, 0)]
        self.assertEqual(refusal(Outside, Layout, 16, rows).name, "a")

    def test_twice_ahead_of_overlap(self):
        rows = [("b", 0, 4, 0), ("a", 8, 4, 0), ("a", 0, 4, 0)]
        self.assertEqual(refusal(Twice, Layout, 16, rows).name, "a")
        rows = [("a", 0, 4, 0), ("a", 0, 4, 0)]
        self.assertEqual(refusal(Twice, Layout, 16, rows).name, "a")

    def test_the_kind_ahead_of_outside(self):
        row = ("A", 99, 99, 0)
        self.assertIs(refusal(NoRow, Layout, 16, [row]).row, row)
        row = ("a", 99, 99, -1)
        self.assertIs(refusal(NoRow, Layout, 16, [row]).row, row)


class KeptTest(unittest.TestCase):
    def test_what_is_handed_in_stays(self):
        rows = [("b", 5, 2, 1), ("a", 0, 3, 0)]
        handed = copy.deepcopy(rows)
        Layout(16, handed)
        self.assertTrue(same(handed, rows))
        for bad in [rows + [None], rows + [("c", 0, 99, 0)], rows + [("a", 9, 1, 0)], rows + [("c", 5, 1, 0)]]:
            handed = copy.deepcopy(bad)
            self.assertRaises(ValueError, Layout, 16, handed)
            self.assertTrue(same(handed, bad))

    def test_what_is_changed_afterwards_changes_nothing(self):
        rows = [("a", 0, 3, 0)]
        layout = Layout(16, rows)
        rows.append(("b", 5, 2, 0))
        rows[0] = ("c", 9, 1, 0)
        self.assertEqual(layout.blocks(), [("a", 0, 3, 0)])
        rows.clear()
        self.assertEqual(layout.names(), ["a"])

    def test_told_lists_are_the_askers_own(self):
        layout = Layout(16, [("a", 0, 3, 0), ("b", 5, 2, 0)])
        layout.blocks().clear()
        layout.blocks().reverse()
        layout.names().append("c")
        self.assertEqual(layout.blocks(), [("a", 0, 3, 0), ("b", 5, 2, 0)])
        self.assertEqual(layout.names(), ["a", "b"])
        self.assertIsNot(layout.blocks(), layout.blocks())
        self.assertIsNot(layout.names(), layout.names())


class ToldTest(unittest.TestCase):
    def test_without_blocks(self):
        layout = Layout(16, [])
        self.assertEqual((layout.blocks(), layout.names(), layout.free_cells()), ([], [], 16))

    def test_blocks_by_rising_starts(self):
        rows = [("z", 0, 3, 2), ("m", 3, 1, 0), ("a", 10, 5, 7), ("b2", 15, 1, 1)]
        for handed in itertools.permutations(rows):
            layout = Layout(17, list(handed))
            self.assertTrue(same(layout.blocks(), rows))
            self.assertEqual(layout.names(), ["z", "m", "a", "b2"])
            self.assertEqual(layout.free_cells(), 7)
            for row in rows:
                self.assertEqual(layout.block(row[0]), row)

    def test_no_block(self):
        layout = Layout(16, [("box", 0, 3, 0)])
        for thing in things():
            if not same(thing, "box"):
                self.assertIs(refusal(NoBlock, layout.block, thing).name, thing)
        for thing in ["bo", "boxx", ("box", 0, 3, 0), ["box"]]:
            self.assertIs(refusal(NoBlock, layout.block, thing).name, thing)


class MovedTest(unittest.TestCase):
    def setUp(self):
        self.rows = [("a", 0, 3, 2), ("b", 5, 2, 0), ("c", 9, 4, 1)]
        self.layout = Layout(16, self.rows)

    def tearDown(self):
        self.assertEqual(self.layout.blocks(), self.rows)
        self.assertEqual(self.layout.many, 16)

    def test_to_another_place(self):
        told = self.layout.moved("a", 13)
        self.assertIsInstance(told, Layout)
        self.assertEqual(told.many, 16)
        self.assertTrue(same(told.blocks(), [("b", 5, 2, 0), ("c", 9, 4, 1), ("a", 13, 3, 2)]))
        self.assertEqual(self.layout.moved("b", 7).block("b"), ("b", 7, 2, 0))

    def test_onto_its_own_cells(self):
        for to in [5, 4, 6, 3, 7]:
            self.assertEqual(self.layout.moved("b", to).blocks(), [self.rows[0], ("b", to, 2, 0), self.rows[2]])
        for to in range(7, 13):
            self.assertEqual(self.layout.moved("c", to).names(), ["a", "b", "c"])

    def test_no_block(self):
        for thing in things() + ["d", "B"]:
            if thing != "a":
                self.assertIs(refusal(NoBlock, self.layout.moved, thing, None).name, thing)

    def test_no_place(self):
        for thing in not_whole() + [-1, -BIG]:
            self.assertIs(refusal(NoPlace, self.layout.moved, "b", thing).at, thing)

    def test_outside(self):
        self.assertEqual(self.layout.moved("b", 14).block("b"), ("b", 14, 2, 0))
        for to in [15, 16, 240, BIG]:
            self.assertEqual(refusal(Outside, self.layout.moved, "b", to).name, "b")

    def test_outside_ahead_of_overlap(self):
        layout = Layout(16, [("a", 0, 4, 0), ("b", 14, 2, 0)])
        self.assertEqual(refusal(Outside, layout.moved, "a", 13).name, "a")

    def test_overlap_tells_the_block_that_starts_first(self):
        rows = [("c", 9, 4, 1), ("wide", 16, 8, 0), ("b", 5, 2, 0), ("a", 0, 3, 2)]
        for handed in itertools.permutations(rows):
            layout = Layout(24, list(handed))
            told = refusal(Overlap, layout.moved, "wide", 2)
            self.assertEqual((told.name, told.other), ("wide", "a"))
            told = refusal(Overlap, layout.moved, "wide", 3)
            self.assertEqual((told.name, told.other), ("wide", "b"))
            told = refusal(Overlap, layout.moved, "a", 8)
            self.assertEqual((told.name, told.other), ("a", "c"))

    def test_against_a_layout_made_anew(self):
        chance = random.Random(14)
        for _ in range(200):
            rows = scattered(chance, 24)
            layout = Layout(24, rows)
            for name, start, size, pins in rows:
                for to in range(26):
                    self.check_moved(layout, (name, to, size, pins))

    def check_moved(self, layout, row):
        name, to, size, pins = row
        others = [other for other in layout.blocks() if other[0] != name]
        met = [other[0] for other in others if set(range(other[1], other[1] + other[2])) & set(range(to, to + size))]
        if to + size > layout.many:
            self.assertEqual(refusal(Outside, layout.moved, name, to).name, name)
        elif met:
            told = refusal(Overlap, layout.moved, name, to)
            self.assertEqual((told.name, told.other), (name, met[0]))
        else:
            told = layout.moved(name, to)
            self.assertEqual(told.blocks(), sorted(others + [row], key=lambda one: one[1]))


def scattered(chance, many):
    """Rows of blocks that lie scattered in so many cells, in any order."""
    rows = []
    at = chance.randrange(3)
    while at < many:
        size = chance.randint(1, 5)
        if at + size <= many:
            rows.append((f"b{at}", at, size, chance.randrange(3)))
        at += size + chance.randrange(4)
    chance.shuffle(rows)
    return rows


if __name__ == "__main__":
    unittest.main()
