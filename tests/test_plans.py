"""[74] to [77]: papers, and what they are checked by."""

import copy
import random
import unittest

from slideroom.errors import NoSize, RoomError
from slideroom.holes import holes_of
from slideroom.layouts import Layout
from slideroom.moves import slid, steps_of
from slideroom.plans import Paper, Plan, Stuck, is_stuck, plan, price_of, slides_to_greater, slides_to_lesser
from slideroom.prices import gaps_of, prices, stretches_of
from somelayouts import copies_of_moves, some_layout
from things import nested, not_whole, refusal, same, things

BIG = 10 ** 60 - 1
ROWS = [("a", 2, 3, 0), ("b", 7, 2, 0), ("p", 9, 1, 2), ("c", 12, 2, 0)]
LAYOUT = Layout(16, ROWS)
NO_SIZES = not_whole() + [0, -1, -BIG]


def some_layouts():
    chance = random.Random(74)
    for _ in range(60):
        yield some_layout(chance, chance.randint(16, 48), 5, chance.choice([0, 0.2, 0.5, 1]))


def told_of(paper):
    return (paper.brings(), paper.price(), paper.gap(), paper.hole(), paper.slides(), paper.counted())


def largest(layout):
    return max([size for _, size in holes_of(layout)], default=0)


class PaperTest(unittest.TestCase):
    def check(self, layout, size, price, gap, hole, slides):
        paper = plan(layout, size)
        self.assertIs(type(paper), Plan)
        self.assertTrue(same(told_of(paper), (True, price, gap, hole, slides, [])), told_of(paper))

    def check_stuck(self, layout, size, counted):
        paper = plan(layout, size)
        self.assertIs(type(paper), Stuck)
        self.assertTrue(same(told_of(paper), (False, None, None, None, [], counted)), told_of(paper))

    def test_the_classes(self):
        self.assertEqual((Plan.__bases__, Stuck.__bases__), ((Paper,), (Paper,)))

    def test_by_hand(self):
        self.check(LAYOUT, 1, 0, 0, (0, 2), [])
        self.check(LAYOUT, 2, 0, 0, (0, 2), [])
        self.check(LAYOUT, 3, 2, 3, (10, 3), [("c", 13)])
        self.check(LAYOUT, 4, 2, 3, (10, 4), [("c", 14)])
        self.check_stuck(LAYOUT, 5, [(0, 9, 4), (10, 16, 4)])
        self.check_stuck(LAYOUT, 16, [(0, 9, 4), (10, 16, 4)])

    def test_several_blocks_are_slid(self):
        layout = Layout(16, [("a", 3, 2, 0), ("b", 6, 2, 0), ("c", 9, 2, 0), ("p", 13, 3, 1)])
        self.check(layout, 4, 2, 0, (0, 4), [("a", 4)])
        self.check(layout, 5, 4, 0, (0, 5), [("b", 7), ("a", 5)])
        self.check(layout, 6, 6, 0, (0, 6), [("c", 10), ("b", 8), ("a", 6)])
        self.check(layout, 7, 6, 0, (0, 7), [("c", 11), ("b", 9), ("a", 7)])
        self.check_stuck(layout, 8, [(0, 13, 7), (16, 16, 0)])

    def test_the_least_price(self):
        layout = Layout(21, [("a", 2, 6, 0), ("b", 10, 1, 0), ("c", 13, 6, 0)])
        self.check(layout, 4, 1, 1, (8, 4), [("b", 12)])
        layout = Layout(24, [("a", 4, 9, 0), ("b", 17, 2, 0)])
        self.check(layout, 5, 0, 2, (19, 5), [])
        self.check(layout, 6, 2, 1, (13, 6), [("b", 19)])

    def test_the_least_gap_of_several(self):
        layout = Layout(16, [("a", 2, 2, 0), ("b", 6, 2, 0), ("c", 10, 2, 0), ("d", 14, 2, 0)])
        self.check(layout, 2, 0, 0, (0, 2), [])
        self.check(layout, 3, 2, 0, (0, 3), [("a", 3)])
        self.check(layout, 4, 2, 0, (0, 4), [("a", 4)])

    def test_the_whole_hole_is_told(self):
        self.check(Layout(16, []), 1, 0, 0, (0, 16), [])
        self.check(Layout(16, []), 16, 0, 0, (0, 16), [])
        self.check(Layout(16, [("a", 0, 4, 1)]), 3, 0, 1, (4, 12), [])

    def test_more_than_there_are_cells(self):
        for size in [17, 18, 240, 241, 10 ** 30, BIG]:
            self.check_stuck(Layout(16, []), size, [(0, 16, 16)])
            self.check_stuck(LAYOUT, size, [(0, 9, 4), (10, 16, 4)])
        self.check(Layout(240, []), 240, 0, 0, (0, 240), [])
        self.check_stuck(Layout(240, []), 241, [(0, 240, 240)])

    def test_all_cells_taken(self):
        self.check_stuck(Layout(16, [("a", 0, 16, 0)]), 1, [(0, 16, 0)])
        self.check_stuck(Layout(16, [("a", 0, 8, 1), ("b", 8, 8, 0)]), 1, [(0, 0, 0), (8, 16, 0)])

    def test_no_size(self):
        for layout in [LAYOUT, Layout(16, [])]:
            for thing in NO_SIZES:
                self.assertIs(refusal(NoSize, plan, layout, thing).size, thing)

    def test_papers_never_change(self):
        for size in [4, 5]:
            paper = plan(LAYOUT, size)
            before = copy.deepcopy(told_of(paper))
            paper.slides().append(("z", 0))
            paper.slides().clear()
            paper.counted().append((0, 0, 0))
            paper.counted().clear()
            self.assertEqual(told_of(paper), before)
            self.assertEqual(told_of(plan(LAYOUT, size)), before)
        self.assertEqual(LAYOUT.blocks(), ROWS)

    def test_the_same_of_layouts_that_were_made_alike(self):
        for layout in some_layouts():
            again = Layout(layout.many, layout.blocks()[::-1])
            for size in [1, 3, 7, 15]:
                self.assertEqual(told_of(plan(layout, size)), told_of(plan(again, size)))


class AgainstTheWordsTest(unittest.TestCase):
    def by_the_words(self, layout, size):
        """Every (price, gap, x) that [74] speaks of."""
        left, right = prices(layout, size)
        for gap, cells in enumerate(gaps_of(layout)):
            for x in range(size + 1):
                one, other = left[gap][x], right[gap][max(0, size - cells - x)]
                if one is not None and other is not None:
                    yield (one + other, gap, x)

    def test_price_gap_and_slides(self):
        brought = {True: 0, False: 0}
        for layout in some_layouts():
            for size in range(1, layout.many + 1):
                paper = plan(layout, size)
                choices = sorted(self.by_the_words(layout, size))
                brought[paper.brings()] += 1
                self.assertEqual(paper.brings(), choices != [])
                if choices:
                    self.assertEqual((paper.price(), paper.gap()), choices[0][:2])
                    self.assertEqual(choices[0][2], 0)
                    self.check_slides(layout, size, paper)
                else:
                    self.assertEqual(paper.counted(), stretches_of(layout))
                    self.assertTrue(all(free < size for _, _, free in paper.counted()))
        self.assertGreater(min(brought.values()), 300)

    def check_slides(self, layout, size, paper):
        moves = paper.slides()
        behind = slid(layout, moves)
        self.assertEqual(behind.names(), layout.names())
        self.assertEqual(copies_of_moves(layout, moves), paper.price())
        self.assertIn(paper.hole(), holes_of(behind))
        self.assertGreaterEqual(paper.hole()[1], size)
        blocks = behind.blocks()
        start = sum(blocks[paper.gap() - 1][1:3]) if paper.gap() > 0 else 0
        self.assertEqual(paper.hole(), (start, gaps_of(behind)[paper.gap()]))
        by_start = [layout.block(name)[1] for name, _ in moves]
        self.assertEqual(by_start, sorted(by_start, reverse=True))
        for name, to in moves:
            self.assertGreater(to, layout.block(name)[1])
        for row in layout.blocks():
            if row[3] > 0:
                self.assertEqual(behind.block(row[0]), row)

    def test_slides_to_either_side(self):
        layout = Layout(24, [("a", 3, 2, 0), ("b", 6, 2, 0), ("c", 9, 2, 0), ("d", 15, 2, 0), ("e", 18, 2, 0)])
        self.assertEqual(slides_to_lesser(layout, 3, 0), [])
        self.assertEqual(slides_to_lesser(layout, 3, 1), [("c", 8)])
        self.assertEqual(slides_to_lesser(layout, 3, 2), [("b", 5), ("c", 7)])
        self.assertEqual(slides_to_lesser(layout, 3, 5), [("a", 0), ("b", 2), ("c", 4)])
        self.assertEqual(slides_to_greater(layout, 3, 0), [])
        self.assertEqual(slides_to_greater(layout, 3, 1), [("d", 16)])
        self.assertEqual(slides_to_greater(layout, 3, 2), [("e", 19), ("d", 17)])
        self.assertEqual(slides_to_greater(layout, 3, 5), [("e", 22), ("d", 20)])
        for by in range(6):
            behind = slid(layout, slides_to_lesser(layout, 3, by) + slides_to_greater(layout, 3, by))
            self.assertEqual(gaps_of(behind)[3], 4 + 2 * by)


class FewestTest(unittest.TestCase):
    """[76]: of all moves there are in small memories none bring a hole with fewer copies."""

    def least_prices(self, layout):
        """For the largest hole behind any moves that [64] lets by, the fewest copies."""
        told = {}
        seen = set()
        waiting = [(layout, frozenset(), 0)]
        while waiting:
            here, moved, copies = waiting.pop()
            if (tuple(here.blocks()), moved) in seen:
                continue
            seen.add((tuple(here.blocks()), moved))
            size = largest(here)
            told[size] = min(copies, told.get(size, copies))
            for name in here.names():
                if name not in moved:
                    waiting.extend(self.behind_one_more(here, moved, copies, name))
        return told

    def behind_one_more(self, here, moved, copies, name):
        for to in range(-1, here.many + 1):
            try:
                steps = steps_of(here, [(name, to)])
            except RoomError:
                continue
            price = copies + (steps[0][2] if steps[0][1] != to else 0)
            yield (slid(here, [(name, to)]), moved | {name}, price)

    def test_small_memories(self):
        chance = random.Random(76)
        for _ in range(14):
            layout = self.small(chance)
            told = self.least_prices(layout)
            for size in range(1, 18):
                least = min([price for most, price in told.items() if most >= size], default=None)
                self.assertEqual(plan(layout, size).price(), least, (layout.blocks(), size))

    def small(self, chance):
        while True:
            layout = some_layout(chance, 16, 6, 0.25)
            if layout.free_cells() <= 7 and 2 <= len([row for row in layout.blocks() if row[3] == 0]) <= 4:
                return layout

    def test_slides_change_no_stretch_between_pins(self):
        chance = random.Random(77)
        done = 0
        for layout in some_layouts():
            for _ in range(30):
                moves = [(name, layout.block(name)[1] + chance.randrange(-2, 3)) for name in layout.names()]
                chance.shuffle(moves)
                try:
                    behind = slid(layout, moves[:2])
                except RoomError:
                    continue
                done += 1
                self.assertEqual(stretches_of(behind), stretches_of(layout))
        self.assertGreater(done, 40)


class PriceOfTest(unittest.TestCase):
    def test_moves_that_bring_a_hole(self):
        for size, moves, price in [
            (1, [], 0), (2, [], 0), (2, [("a", 2)], 0), (3, [("a", 0)], 3), (4, [("a", 0)], 3), (4, [("c", 10)], 2),
            (4, [("c", 14)], 2), (4, [("c", 14), ("a", 0)], 5), (4, [("a", 0), ("b", 3)], 5), (3, [("c", 13)], 2),
            (4, [("c", 14), ("b", 7)], 2), (4, [("a", 4)], 3), (2, [("b", 6)], 2),
        ]:
            self.assertTrue(same(price_of(LAYOUT, size, moves), price), (size, moves))

    def test_moves_that_bring_none(self):
        for size, moves in [
            (3, []), (3, [("a", 2)]), (5, [("a", 0)]), (5, [("c", 14)]), (4, [("c", 13)]), (4, [("a", 1)]), (17, []),
            (BIG, []), (4, [("a", 1), ("b", 6)]), (3, [("b", 5)]),
        ]:
            self.assertIsNone(price_of(LAYOUT, size, moves), (size, moves))

    def test_moves_that_are_refused(self):
        for moves in [
            [("p", 9)], [("x", 0)], [("a", 99)], [("a", 0), ("a", 1)], [("b", 3)], [("a", 0), ("b", 2)], None, [None],
            [("a", True)], [("a", None)], [["a", 0]], (("a", 0),), nested(10), [("a",)],
        ]:
            for size in [1, 2, 4, 99]:
                self.assertIsNone(price_of(LAYOUT, size, moves), moves)

    def test_things_of_every_kind(self):
        for thing in things():
            told = 0 if isinstance(thing, list) and thing == [] else None
            self.assertTrue(same(price_of(LAYOUT, 1, thing), told), thing)
            self.assertIsNone(price_of(LAYOUT, 1, [("a", 0), thing]))

    def test_no_size(self):
        for thing in NO_SIZES:
            for moves in [[], [("a", 0)], [("x", 0)], None, thing]:
                self.assertIs(refusal(NoSize, price_of, LAYOUT, thing, moves).size, thing)

    def test_what_is_handed_in_stays(self):
        moves = [("a", 0), ("b", 3)]
        price_of(LAYOUT, 4, moves)
        self.assertEqual((moves, LAYOUT.blocks()), ([("a", 0), ("b", 3)], ROWS))

    def test_of_a_plans_slides(self):
        for layout in some_layouts():
            for size in range(1, layout.many + 1):
                paper = plan(layout, size)
                if paper.brings():
                    self.assertTrue(same(price_of(layout, size, paper.slides()), paper.price()))
                    self.assertIsNone(price_of(layout, largest(slid(layout, paper.slides())) + 1, paper.slides()))


class IsStuckTest(unittest.TestCase):
    def test_the_told_list(self):
        told = [(0, 9, 4), (10, 16, 4)]
        for size in [5, 6, 16, 17, 241, BIG]:
            self.assertIs(is_stuck(LAYOUT, size, told), True)
        for size in [1, 3, 4]:
            self.assertIs(is_stuck(LAYOUT, size, told), False)

    def test_where_one_stretch_has_as_many(self):
        layout = Layout(16, [("a", 3, 2, 0), ("p", 6, 1, 1), ("b", 9, 1, 0)])
        told = [(0, 6, 4), (7, 16, 8)]
        self.assertEqual(stretches_of(layout), told)
        for size in range(1, 18):
            self.assertIs(is_stuck(layout, size, told), size > 8)

    def test_others_beside_it(self):
        told = [(0, 9, 4), (10, 16, 4)]
        others = [
            [], told[:1], told[1:], told[::-1], told + [(16, 16, 0)], [(0, 0, 0)] + told, tuple(told),
            [list(one) for one in told], [(0, 9), (10, 16)], [(0, 9, 4, 0), (10, 16, 4)], told + told,
        ]
        for at in range(2):
            for part in range(3):
                for other in [told[at][part] + 1, told[at][part] - 1, None, str(told[at][part]), [told[at][part]]]:
                    row = list(told[at])
                    row[part] = other
                    others.append(told[:at] + [tuple(row)] + told[at + 1:])
        for other in others:
            before = copy.deepcopy(other)
            self.assertIs(is_stuck(LAYOUT, 5, other), False, other)
            self.assertEqual(other, before)

    def test_truths_are_no_numbers(self):
        layout = Layout(16, [("p", 1, 15, 1)])
        self.assertIs(is_stuck(layout, 2, [(0, 1, 1), (16, 16, 0)]), True)
        for told in [
            [(False, 1, 1), (16, 16, 0)], [(0, True, 1), (16, 16, 0)], [(0, 1, True), (16, 16, 0)],
            [(0, 1, 1), (16, 16, False)],
        ]:
            self.assertIs(is_stuck(layout, 2, told), False)

    def test_things_of_every_kind(self):
        for thing in things():
            self.assertIs(is_stuck(LAYOUT, 5, thing), False)
            self.assertIs(is_stuck(LAYOUT, 5, [thing]), False)
            self.assertIs(is_stuck(LAYOUT, 5, [(0, 9, 4), thing]), False)

    def test_no_size(self):
        for thing in NO_SIZES:
            for told in [None, [(0, 9, 4), (10, 16, 4)], thing]:
                self.assertIs(refusal(NoSize, is_stuck, LAYOUT, thing, told).size, thing)

    def test_just_where_no_plan_is(self):
        for layout in some_layouts():
            for size in range(1, layout.many + 3):
                told = stretches_of(layout)
                self.assertIs(is_stuck(layout, size, told), not plan(layout, size).brings())


if __name__ == "__main__":
    unittest.main()
