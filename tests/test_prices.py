"""[71] to [73]: gaps, tables of least prices, and stretches between pins."""

import copy
import random
import unittest

from slideroom.errors import NoSize
from slideroom.layouts import Layout
from slideroom.prices import gaps_of, is_prices, prices, stretches_of
from things import not_whole, refusal, same, things

BIG = 10 ** 60 - 1
ROWS = [("a", 2, 3, 0), ("b", 7, 2, 0), ("p", 9, 1, 2), ("c", 12, 2, 0)]
LAYOUT = Layout(16, ROWS)


def some_layout(chance, many, pinned=0.3):
    rows = []
    at = chance.randrange(4)
    while at < many and len(rows) < 40:
        size = min(chance.randint(1, 5), many - at)
        rows.append((f"b{len(rows)}", at, size, chance.randint(1, 3) if chance.random() < pinned else 0))
        at += size + chance.randrange(5)
    chance.shuffle(rows)
    return Layout(many, rows)


class GapsTest(unittest.TestCase):
    def test_no_blocks(self):
        self.assertTrue(same(gaps_of(Layout(16, [])), [16]))
        self.assertTrue(same(gaps_of(Layout(240, [])), [240]))

    def test_some(self):
        self.assertTrue(same(gaps_of(LAYOUT), [2, 2, 0, 2, 2]))

    def test_at_both_ends(self):
        self.assertTrue(same(gaps_of(Layout(16, [("a", 0, 3, 0), ("b", 14, 2, 1)])), [0, 11, 0]))
        self.assertTrue(same(gaps_of(Layout(16, [("a", 0, 16, 0)])), [0, 0]))

    def test_side_by_side(self):
        rows = [("a", 0, 3, 0), ("b", 3, 2, 1), ("c", 5, 11, 0)]
        self.assertTrue(same(gaps_of(Layout(16, rows)), [0, 0, 0, 0]))
        self.assertTrue(same(gaps_of(Layout(17, rows[::-1])), [0, 0, 0, 1]))

    def test_all_gaps_are_all_free_cells(self):
        chance = random.Random(71)
        for _ in range(50):
            layout = some_layout(chance, chance.randint(16, 60))
            gaps = gaps_of(layout)
            self.assertEqual((sum(gaps), len(gaps)), (layout.free_cells(), len(layout.names()) + 1))
            cells = ["."] * layout.many
            for at, row in enumerate(layout.blocks()):
                cells[row[1]:row[1] + row[2]] = [str(at)] + [""] * (row[2] - 1)
            text = "".join(cells)
            for at in range(len(layout.names())):
                ahead, _, text = text.partition(str(at))
                self.assertEqual(len(ahead), gaps[at])
            self.assertEqual(len(text), gaps[-1])

    def test_told_lists_are_the_askers_own(self):
        gaps_of(LAYOUT).clear()
        self.assertEqual(gaps_of(LAYOUT), [2, 2, 0, 2, 2])


class PricesTest(unittest.TestCase):
    def test_by_hand(self):
        none = None
        self.assertTrue(same(prices(LAYOUT, 5), (
            [[0, none, none, none, none, none], [0, 3, 3, none, none, none], [0, 2, 2, 5, 5, none],
             [0, none, none, none, none, none], [0, 2, 2, none, none, none]],
            [[0, 3, 3, none, none, none], [0, none, none, none, none, none], [0, none, none, none, none, none],
             [0, 2, 2, none, none, none], [0, none, none, none, none, none]],
        )))

    def test_no_blocks(self):
        for size in [1, 5, 240]:
            row = [0] + [None] * size
            self.assertTrue(same(prices(Layout(16, []), size), ([row], [row])))

    def test_sizes_of_240(self):
        layout = Layout(240, [("a", 0, 1, 0)])
        left, right = prices(layout, 240)
        self.assertTrue(same(left, [[0] + [None] * 240, [0] + [None] * 240]))
        self.assertTrue(same(right, [[0] + [1] * 239 + [None], [0] + [None] * 240]))
        left, right = prices(LAYOUT, 240)
        self.assertEqual({len(row) for row in left + right}, {241})

    def test_a_size_of_one(self):
        self.assertTrue(same(prices(LAYOUT, 1), (
            [[0, None], [0, 3], [0, 2], [0, None], [0, 2]], [[0, 3], [0, None], [0, None], [0, 2], [0, None]],
        )))

    def test_no_size(self):
        for thing in not_whole() + [0, -1, 241, BIG, -BIG]:
            self.assertIs(refusal(NoSize, prices, LAYOUT, thing).size, thing)
            for told in [None, ([], []), prices(LAYOUT, 1), thing]:
                self.assertIs(refusal(NoSize, is_prices, LAYOUT, thing, told).size, thing)

    def by_the_words(self, layout, size):
        """The tables, entry by entry, each by nothing but the one ahead of it."""
        blocks = layout.blocks()
        gaps = gaps_of(layout)
        last = len(blocks)
        left, right = {}, {}
        for gap in range(last + 1):
            for x in range(size + 1):
                if x == 0:
                    left[gap, x] = 0
                elif gap == 0 or blocks[gap - 1][3] != 0:
                    left[gap, x] = None
                else:
                    price = left[gap - 1, max(0, x - gaps[gap - 1])]
                    left[gap, x] = None if price is None else blocks[gap - 1][2] + price
        for gap in range(last, -1, -1):
            for x in range(size + 1):
                if x == 0:
                    right[gap, x] = 0
                elif gap == last or blocks[gap][3] != 0:
                    right[gap, x] = None
                else:
                    price = right[gap + 1, max(0, x - gaps[gap + 1])]
                    right[gap, x] = None if price is None else blocks[gap][2] + price
        return tuple([[table[gap, x] for x in range(size + 1)] for gap in range(last + 1)] for table in (left, right))

    def test_against_the_words(self):
        chance = random.Random(72)
        for at in range(80):
            layout = some_layout(chance, chance.randint(16, 240), chance.choice([0, 0.1, 0.4, 1]))
            size = chance.choice([1, 2, 5, 17, 240, chance.randint(1, 240)])
            told = self.by_the_words(layout, size)
            self.assertTrue(same(prices(layout, size), told))
            self.assertIs(is_prices(layout, size, told), True)

    def test_told_lists_are_the_askers_own(self):
        told = prices(LAYOUT, 3)
        before = copy.deepcopy(told)
        told[0][1][2] = 99
        told[1][0].clear()
        told[0].clear()
        self.assertEqual(prices(LAYOUT, 3), before)
        for row in before[0]:
            self.assertEqual(sum(other is row for other in before[0] + before[1]), 1)
        told = prices(LAYOUT, 3)
        rows = told[0] + told[1]
        self.assertEqual(len({id(row) for row in rows}), len(rows))


class IsPricesTest(unittest.TestCase):
    def told(self):
        return prices(LAYOUT, 3)

    def check(self, told, whether=False):
        before = copy.deepcopy(told)
        self.assertIs(is_prices(LAYOUT, 3, told), whether, told)
        self.assertTrue(same(told, before))

    def test_the_told_tuple(self):
        self.check(self.told(), True)
        self.check(copy.deepcopy(self.told()), True)

    def test_every_entry_changed(self):
        for table in range(2):
            for gap in range(5):
                for x in range(4):
                    right = self.told()[table][gap][x]
                    others = [right + 1, right - 1, None] if right is not None else [0, 1, 3]
                    for other in others + ["3", [right], (right,), True, False, str(right), 10 ** 59, {}]:
                        told = self.told()
                        told[table][gap][x] = other
                        self.check(told)

    def test_truths_for_numbers(self):
        layout = Layout(16, [("a", 3, 1, 0)])
        told = prices(layout, 2)
        self.assertEqual(told, ([[0, None, None], [0, 1, 1]], [[0, 1, 1], [0, None, None]]))
        for table, gap, x in [(0, 0, 0), (0, 1, 0), (0, 1, 1), (0, 1, 2), (1, 0, 0), (1, 0, 1), (1, 0, 2), (1, 1, 0)]:
            other = copy.deepcopy(told)
            other[table][gap][x] = bool(other[table][gap][x])
            self.assertEqual(other, told)
            self.assertIs(is_prices(layout, 2, other), False)
        self.assertIs(is_prices(layout, 2, told), True)

    def test_lists_for_tuples_and_the_other_way_about(self):
        left, right = self.told()
        self.check([left, right])
        self.check((tuple(left), right))
        self.check((left, tuple(right)))
        for gap in range(5):
            for table in range(2):
                told = self.told()
                told[table][gap] = tuple(told[table][gap])
                self.check(told)

    def test_rows_left_out_and_put_in(self):
        left, right = self.told()
        self.check((left,))
        self.check((left, right, right))
        self.check((right, left))
        self.check((left, left))
        for table in range(2):
            for gap in range(5):
                told = self.told()
                told[table].pop(gap)
                self.check(told)
                told = self.told()
                told[table].insert(gap, list(told[table][gap]))
                self.check(told)
                told = self.told()
                told[table][gap].append(None)
                self.check(told)
                told = self.told()
                told[table][gap].pop()
                self.check(told)
            told = self.told()
            told[table].append([0, None, None, None])
            self.check(told)

    def test_of_another_size_or_layout(self):
        for size in [1, 2, 4, 240]:
            self.check(prices(LAYOUT, size))
        self.check(prices(Layout(16, ROWS[:3]), 3))
        self.check(prices(LAYOUT.moved("a", 0), 3))
        self.check(prices(Layout(16, ROWS[:2] + [("p", 9, 1, 0)] + ROWS[3:]), 3))

    def test_things_of_every_kind(self):
        for thing in things() + [([], []), ([[]], [[]]), (None, None), ({}, {})]:
            self.check(thing)
            self.check((thing, thing))
            self.check((self.told()[0], thing))
            self.check(([thing] * 5, self.told()[1]))


class StretchesTest(unittest.TestCase):
    def test_no_blocks(self):
        self.assertTrue(same(stretches_of(Layout(16, [])), [(0, 16, 16)]))

    def test_none_pinned(self):
        layout = Layout(16, [("a", 0, 3, 0), ("b", 14, 2, 0)])
        self.assertTrue(same(stretches_of(layout), [(0, 16, 11)]))
        self.assertTrue(same(stretches_of(Layout(16, [("a", 0, 16, 0)])), [(0, 16, 0)]))

    def test_some_pinned(self):
        self.assertTrue(same(stretches_of(LAYOUT), [(0, 9, 4), (10, 16, 4)]))
        layout = Layout(16, [("a", 0, 3, 0), ("b", 4, 2, 1), ("c", 6, 2, 0), ("d", 12, 1, 3), ("e", 15, 1, 0)])
        self.assertTrue(same(stretches_of(layout), [(0, 4, 1), (6, 12, 4), (13, 16, 2)]))

    def test_all_pinned(self):
        layout = Layout(16, [("a", 1, 3, 1), ("b", 4, 2, 1), ("c", 10, 2, 1)])
        self.assertTrue(same(stretches_of(layout), [(0, 1, 1), (4, 4, 0), (6, 10, 4), (12, 16, 4)]))

    def test_without_cells(self):
        layout = Layout(16, [("a", 0, 8, 1), ("b", 8, 8, 1)])
        self.assertTrue(same(stretches_of(layout), [(0, 0, 0), (8, 8, 0), (16, 16, 0)]))
        self.assertTrue(same(stretches_of(Layout(16, [("a", 0, 16, 5)])), [(0, 0, 0), (16, 16, 0)]))

    def test_against_cells(self):
        chance = random.Random(73)
        for _ in range(80):
            layout = some_layout(chance, chance.randint(16, 60), chance.choice([0, 0.3, 0.6, 1]))
            signs = ["."] * layout.many
            for _, start, size, pins in layout.blocks():
                signs[start:start + size] = ["P" if pins else "b"] * size
            for first, behind, free in stretches_of(layout):
                self.assertNotIn("P", signs[first:behind])
                self.assertEqual(signs[first:behind].count("."), free)
                self.assertTrue(first == 0 or signs[first - 1] == "P")
                self.assertTrue(behind == layout.many or signs[behind] == "P")
            pinned = [row for row in layout.blocks() if row[3] > 0]
            self.assertEqual(len(stretches_of(layout)), len(pinned) + 1)
            self.assertEqual([one[1] for one in stretches_of(layout)], [row[1] for row in pinned] + [layout.many])

    def test_told_lists_are_the_askers_own(self):
        stretches_of(LAYOUT).clear()
        self.assertEqual(stretches_of(LAYOUT), [(0, 9, 4), (10, 16, 4)])


if __name__ == "__main__":
    unittest.main()
