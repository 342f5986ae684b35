"""[81] to [84]: blocks slid to one end, and the free cells between pins joined for the least price."""

import copy
import random
import unittest

from slideroom.errors import NoWay
from slideroom.holes import holes_of
from slideroom.layouts import Layout
from slideroom.moves import slid
from slideroom.packing import fewest_holes, is_tidied, packed, tidied
from slideroom.prices import stretches_of
from somelayouts import copies_of_moves, placements, some_layout
from things import nested, refusal, same, things

ROWS = [("a", 2, 3, 0), ("b", 7, 2, 0), ("p", 9, 1, 2), ("c", 12, 2, 0)]
LAYOUT = Layout(16, ROWS)
EMPTY = Layout(16, [])
ALL_PINNED = Layout(16, [("a", 2, 3, 1), ("b", 7, 2, 4), ("c", 12, 2, 1000)])
NONE_PINNED = Layout(16, [("a", 2, 3, 0), ("b", 7, 2, 0), ("c", 12, 2, 0)])
FULL = Layout(16, [("a", 0, 5, 0), ("p", 5, 1, 1), ("b", 6, 10, 0)])
WAYS = ["down", "up"]


def some_layouts(tries=80):
    chance = random.Random(81)
    for _ in range(tries):
        yield some_layout(chance, chance.randint(16, 60), chance.choice([2, 5, 9]), chance.choice([0, 0.2, 0.5, 1]))
    yield some_layout(chance, 240, 9, 0.1)
    yield Layout(240, [(f"b{at}", 6 * at + 1, 4, at % 7 // 6) for at in range(40)])


def small_layouts():
    """Layouts so small that all places of their blocks can be gone through."""
    chance = random.Random(83)
    told = []
    while len(told) < 60:
        layout = some_layout(chance, 16, chance.choice([2, 4, 6]), chance.choice([0, 0.25, 0.5]))
        free = [row for row in layout.blocks() if row[3] == 0]
        if 1 <= len(free) <= 4 and layout.free_cells() <= 9:
            told.append(layout)
    return told


class PackedTest(unittest.TestCase):
    def check(self, layout, way, moves):
        self.assertTrue(same(packed(layout, way), moves), packed(layout, way))

    def test_by_hand(self):
        self.check(LAYOUT, "down", [("a", 0), ("b", 3), ("c", 10)])
        self.check(LAYOUT, "up", [("c", 14), ("a", 4)])
        self.check(NONE_PINNED, "down", [("a", 0), ("b", 3), ("c", 5)])
        self.check(NONE_PINNED, "up", [("c", 14), ("b", 12), ("a", 9)])

    def test_without_moves(self):
        for way in WAYS:
            for layout in [EMPTY, ALL_PINNED, FULL]:
                self.check(layout, way, [])
        self.check(Layout(16, [("a", 0, 3, 0), ("b", 3, 2, 0)]), "down", [])
        self.check(Layout(16, [("a", 11, 3, 0), ("b", 14, 2, 0)]), "up", [])

    def test_blocks_that_lie_there_already(self):
        layout = Layout(20, [("a", 0, 3, 0), ("b", 4, 2, 0), ("p", 8, 1, 1), ("c", 9, 2, 0), ("d", 18, 2, 0)])
        self.check(layout, "down", [("b", 3), ("d", 11)])
        self.check(layout, "up", [("c", 16), ("b", 6), ("a", 3)])

    def test_a_single_block(self):
        for start in range(14):
            layout = Layout(16, [("a", start, 3, 0)])
            self.check(layout, "down", [] if start == 0 else [("a", 0)])
            self.check(layout, "up", [] if start == 13 else [("a", 13)])

    def test_the_way_left_out(self):
        for layout in [LAYOUT, NONE_PINNED, EMPTY]:
            self.assertTrue(same(packed(layout), packed(layout, "down")))
            self.assertTrue(same(packed(layout, way="up"), packed(layout, "up")))

    def test_no_way(self):
        for layout in [LAYOUT, EMPTY, ALL_PINNED]:
            for thing in things() + ["Down", "up ", " down", "down\n", "UP", "downup", ["down"], ("up",), {"up": 1}]:
                self.assertIs(refusal(NoWay, packed, layout, thing).way, thing)

    def test_step_by_step_as_the_words_tell(self):
        for layout in some_layouts():
            self.assertEqual(packed(layout, "down"), self.down_by_the_words(layout))
            self.assertEqual(packed(layout, "up"), self.up_by_the_words(layout))

    def down_by_the_words(self, layout):
        moves = []
        names = layout.names()
        for at, name in enumerate(names):
            _, start, _, pins = layout.block(name)
            to = sum(layout.block(names[at - 1])[1:3]) if at > 0 else 0
            if pins == 0 and to != start:
                moves.append((name, to))
                layout = layout.moved(name, to)
        return moves

    def up_by_the_words(self, layout):
        moves = []
        names = layout.names()[::-1]
        for at, name in enumerate(names):
            _, start, size, pins = layout.block(name)
            to = (layout.block(names[at - 1])[1] if at > 0 else layout.many) - size
            if pins == 0 and to != start:
                moves.append((name, to))
                layout = layout.moved(name, to)
        return moves

    def test_a_new_list_each_time(self):
        for way in WAYS:
            told = packed(LAYOUT, way)
            told.clear()
            self.assertNotEqual(packed(LAYOUT, way), [])
            self.assertEqual(LAYOUT.blocks(), ROWS)


class FewestHolesTest(unittest.TestCase):
    def test_by_hand(self):
        for layout, many in [
            (LAYOUT, 2), (EMPTY, 1), (ALL_PINNED, 4), (NONE_PINNED, 1), (FULL, 0),
            (Layout(16, [("a", 0, 16, 0)]), 0), (Layout(16, [("a", 0, 16, 3)]), 0),
            (Layout(16, [("p", 0, 4, 1), ("q", 12, 4, 1)]), 1), (Layout(16, [("p", 4, 4, 1), ("q", 8, 4, 1)]), 2),
            (Layout(16, [("a", 0, 4, 0), ("p", 4, 4, 1), ("q", 9, 7, 1)]), 1),
            (Layout(16, [("p", 1, 15, 1)]), 1), (Layout(16, [("p", 0, 15, 1)]), 1),
        ]:
            self.assertTrue(same(fewest_holes(layout), many), layout.blocks())

    def test_of_stretches_with_free_cells(self):
        for layout in some_layouts():
            self.assertEqual(fewest_holes(layout), sum(1 for _, _, free in stretches_of(layout) if free > 0))

    def test_fewer_holes_are_never_come_to(self):
        for layout in small_layouts():
            counts = [len(holes_of(made)) for made in placements(layout)]
            self.assertEqual(min(counts), fewest_holes(layout), layout.blocks())


class BehindPackingTest(unittest.TestCase):
    def test_one_hole_in_each_stretch_with_free_cells(self):
        for layout in some_layouts():
            stretches = [one for one in stretches_of(layout) if one[2] > 0]
            behind = slid(layout, packed(layout, "down"))
            self.assertEqual(holes_of(behind), [(end - free, free) for _, end, free in stretches])
            behind = slid(layout, packed(layout, "up"))
            self.assertEqual(holes_of(behind), [(first, free) for first, _, free in stretches])

    def test_as_few_holes_as_can_be(self):
        for layout in some_layouts():
            for way in WAYS:
                self.assertEqual(len(holes_of(slid(layout, packed(layout, way)))), fewest_holes(layout))

    def test_once_more_there_are_no_moves(self):
        for layout in some_layouts():
            for way in WAYS:
                self.assertEqual(packed(slid(layout, packed(layout, way)), way), [])

    def test_pins_and_order_stay(self):
        for layout in some_layouts():
            for way in WAYS:
                behind = slid(layout, packed(layout, way))
                self.assertEqual(behind.names(), layout.names())
                for row in layout.blocks():
                    if row[3] > 0:
                        self.assertEqual(behind.block(row[0]), row)
                self.assertEqual(stretches_of(behind), stretches_of(layout))


class TidiedTest(unittest.TestCase):
    def check(self, layout, price, moves):
        self.assertTrue(same(tidied(layout), (price, moves)), tidied(layout))

    def test_by_hand(self):
        self.check(LAYOUT, 5, [("c", 14), ("a", 4)])
        self.check(NONE_PINNED, 7, [("c", 14), ("b", 12), ("a", 9)])
        self.check(Layout(16, [("a", 0, 3, 0), ("b", 5, 2, 0), ("c", 9, 2, 0)]), 4, [("c", 14), ("b", 12)])

    def test_without_moves(self):
        for layout in [EMPTY, ALL_PINNED, FULL, Layout(16, [("a", 0, 3, 0)]), Layout(16, [("a", 13, 3, 0)])]:
            self.check(layout, 0, [])
        self.check(Layout(16, [("a", 0, 3, 0), ("b", 5, 2, 0), ("p", 7, 1, 1), ("c", 15, 1, 0)]), 0, [])

    def test_several_gaps_of_the_least_price(self):
        self.check(Layout(16, [("a", 2, 3, 0)]), 3, [("a", 13)])
        self.check(Layout(16, [("a", 2, 3, 0), ("b", 7, 3, 0)]), 6, [("b", 13), ("a", 10)])
        self.check(Layout(16, [("p", 0, 4, 1), ("a", 5, 2, 0), ("q", 9, 3, 1), ("b", 13, 2, 0)]), 4,
                   [("b", 14), ("a", 7)])

    def test_blocks_at_the_upper_end_stay(self):
        self.check(Layout(16, [("a", 1, 3, 0), ("b", 5, 2, 0), ("c", 14, 2, 0)]), 5, [("b", 12), ("a", 9)])
        self.check(Layout(20, [("a", 1, 3, 0), ("b", 5, 2, 0), ("p", 7, 2, 1), ("c", 10, 1, 0)]), 4,
                   [("c", 19), ("a", 2)])

    def by_the_words(self, layout):
        """What [83] tells: in each stretch the lowest gap of the least price, then the moves of all of them."""
        price = 0
        places = {}
        for first, end, _ in stretches_of(layout):
            blocks = [row for row in layout.blocks() if first <= row[1] < end]
            told = []
            for gap in range(len(blocks) + 1):
                to = {}
                for at, row in enumerate(blocks):
                    if at < gap:
                        to[row[0]] = first + sum(other[2] for other in blocks[:at])
                    else:
                        to[row[0]] = end - sum(other[2] for other in blocks[at:])
                told.append((sum(row[2] for row in blocks if to[row[0]] != row[1]), gap, to))
            chosen = min(told, key=lambda one: one[:2])
            price += chosen[0]
            places.update(chosen[2])
        rows = [row for row in layout.blocks() if row[0] in places]
        lesser = [(row[0], places[row[0]]) for row in rows if places[row[0]] < row[1]]
        greater = [(row[0], places[row[0]]) for row in rows[::-1] if places[row[0]] > row[1]]
        return (price, lesser + greater)

    def test_as_the_words_tell(self):
        for layout in some_layouts():
            self.assertTrue(same(tidied(layout), self.by_the_words(layout)), layout.blocks())

    def test_the_moves_done(self):
        for layout in some_layouts():
            price, moves = tidied(layout)
            behind = slid(layout, moves)
            self.assertEqual(copies_of_moves(layout, moves), price)
            self.assertEqual(len(holes_of(behind)), fewest_holes(layout))
            self.assertEqual(behind.names(), layout.names())
            for name, to in moves:
                self.assertGreater(to, layout.block(name)[1])
            self.assertTrue(same(tidied(behind), (0, [])))

    def test_the_first_gap_with_cells_is_chosen(self):
        for layout in some_layouts():
            behind = slid(layout, tidied(layout)[1])
            for first, end, free in stretches_of(layout):
                ahead = [hole for hole in holes_of(layout) if first <= hole[0] < end]
                if free > 0:
                    self.assertIn((ahead[0][0], free), holes_of(behind))

    def test_no_places_with_so_few_holes_are_cheaper(self):
        moved = 0
        for layout in small_layouts():
            prices = [
                sum(row[2] for row in made.blocks() if row != layout.block(row[0]))
                for made in placements(layout) if len(holes_of(made)) == fewest_holes(layout)
            ]
            self.assertEqual(tidied(layout)[0], min(prices), layout.blocks())
            moved += min(prices) > 0
        self.assertGreater(moved, 20)

    def test_a_new_list_each_time(self):
        tidied(LAYOUT)[1].clear()
        self.check(LAYOUT, 5, [("c", 14), ("a", 4)])
        self.assertEqual(LAYOUT.blocks(), ROWS)


class IsTidiedTest(unittest.TestCase):
    def check(self, told, truth, layout=LAYOUT):
        before = copy.deepcopy(told)
        self.assertIs(is_tidied(layout, told), truth, told)
        self.assertTrue(same(told, before))

    def test_what_is_told(self):
        for layout in some_layouts():
            self.check(tidied(layout), True, layout)
        for layout in [EMPTY, ALL_PINNED, FULL]:
            self.check((0, []), True, layout)

    def test_other_moves_with_as_many_copies(self):
        self.check((5, [("a", 4), ("c", 14)]), True)
        self.check((5, [("c", 10), ("a", 4)]), True)
        self.check((7, [("a", 0), ("b", 3), ("c", 5)]), True, NONE_PINNED)
        self.check((3, [("a", 0)]), True, Layout(16, [("a", 2, 3, 0)]))
        self.check((3, [("a", 13)]), True, Layout(16, [("a", 2, 3, 0)]))

    def test_moves_to_a_blocks_own_place(self):
        self.check((5, [("b", 7), ("c", 14), ("a", 4)]), True)
        self.check((5, [("c", 14), ("a", 4), ("b", 7)]), True)
        self.check((0, [("a", 0), ("b", 6)]), True, FULL)
        self.check((5, [("c", 12), ("a", 4)]), False)
        self.check((3, [("a", 4), ("c", 12)]), False)

    def test_moves_with_more_copies(self):
        self.check((7, [("a", 0), ("b", 3), ("c", 10)]), False)
        self.check((5, [("a", 0), ("b", 3), ("c", 10)]), False)
        self.check((3, [("a", 0)]), False, Layout(16, [("a", 13, 3, 0)]))
        self.check((0, [("a", 0)]), False, Layout(16, [("a", 13, 3, 0)]))

    def test_too_many_holes(self):
        for told in [(0, []), (3, [("a", 4)]), (2, [("c", 14)]), (5, [("c", 13), ("a", 4)]), (5, [("c", 14), ("a", 3)]),
                     (5, []), (5, [("b", 5), ("a", 0)])]:
            self.check(told, False)

    def test_another_price(self):
        moves = [("c", 14), ("a", 4)]
        for price in [4, 6, 0, -5, 10 ** 59, None, True, False, "5", [5], (5,), {}]:
            self.check((price, moves), False)

    def test_truths_are_no_numbers(self):
        layout = Layout(16, [("a", 1, 1, 0), ("p", 3, 13, 1)])
        self.check((1, [("a", 0)]), True, layout)
        self.check((1, [("a", 2)]), True, layout)
        self.check((True, [("a", 0)]), False, layout)
        self.check((1, [("a", False)]), False, layout)
        self.check((0, []), True, EMPTY)
        self.check((False, []), False, EMPTY)
        layout = Layout(16, [("a", 0, 1, 0), ("b", 2, 14, 0)])
        self.check((0, [("a", 0)]), True, layout)
        self.check((0, [("a", False)]), False, layout)

    def test_lists_for_tuples(self):
        moves = [("c", 14), ("a", 4)]
        for told in [
            [5, moves], (5, tuple(moves)), (5, [list(move) for move in moves]), (5, moves, 0), (5,), (moves, 5),
            ((5, moves),), moves, (5, dict(moves)), (5, [("c", 14, 0), ("a", 4)]), (5, [("c",), ("a", 4)]),
        ]:
            self.check(told, False)

    def test_moves_that_are_refused(self):
        for moves in [
            [("c", 14), ("a", 4), ("a", 4)], [("c", 14), ("a", 4), ("p", 9)], [("c", 14), ("a", 4), ("x", 0)],
            [("c", 15), ("a", 4)], [("c", 14), ("a", 5)], [("c", -1), ("a", 4)], [("c", "14"), ("a", 4)],
            [(None, 14), ("a", 4)], [(["c"], 14), ("a", 4)], [("c", 14), ("a", None)], [("b", 3), ("a", 0), ("c", 10)],
        ]:
            for price in [5, 7]:
                self.check((price, moves), False)

    def test_things_of_every_kind(self):
        for thing in things() + [nested(9)]:
            for told in [thing, (5, thing), (thing, [("c", 14), ("a", 4)]), (5, [("c", 14), ("a", 4), thing]),
                         (5, [("c", 14), ("a", 4)], thing), (5, [("c", thing), ("a", 4)]),
                         (5, [(thing, 14), ("a", 4)])]:
                self.check(told, False)
            self.check((0, thing), isinstance(thing, list) and thing == [], EMPTY)
            self.check((thing, []), type(thing) is int and thing == 0, EMPTY)

    def test_of_all_places_in_small_memories(self):
        said = {True: 0, False: 0}
        for layout in small_layouts()[:25]:
            least = tidied(layout)[0]
            for made in placements(layout):
                # By rising starts to lesser places, then by falling ones to greater places, each slide is let by.
                rows = [row for row in made.blocks() if row != layout.block(row[0])]
                moves = [row[:2] for row in rows if row[1] < layout.block(row[0])[1]]
                moves += [row[:2] for row in rows[::-1] if row[1] > layout.block(row[0])[1]]
                price = sum(row[2] for row in rows)
                truth = price == least and len(holes_of(made)) == fewest_holes(layout)
                self.assertIs(is_tidied(layout, (price, moves)), truth)
                said[truth] += 1
        self.assertGreater(min(said.values()), 25)


if __name__ == "__main__":
    unittest.main()
