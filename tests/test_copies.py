"""[61] to [63]: slides as rows of copies."""

import copy
import random
import unittest

from slideroom.copies import carried, copies_of, is_clean
from slideroom.errors import NoPlace
from things import nested, not_whole, refusal, same, things

BIG = 10 ** 60 - 1


class CopiesOfTest(unittest.TestCase):
    def test_to_a_lesser_place(self):
        self.assertTrue(same(copies_of(5, 3, 4), [(5, 4), (6, 5), (7, 6)]))
        self.assertTrue(same(copies_of(5, 3, 0), [(5, 0), (6, 1), (7, 2)]))
        self.assertTrue(same(copies_of(240, 2, 239), [(240, 239), (241, 240)]))

    def test_to_a_greater_place(self):
        self.assertTrue(same(copies_of(5, 3, 6), [(7, 8), (6, 7), (5, 6)]))
        self.assertTrue(same(copies_of(0, 2, 240), [(1, 241), (0, 240)]))

    def test_to_the_start_itself(self):
        for start in [0, 5, 240]:
            self.assertTrue(same(copies_of(start, 3, start), []))

    def test_a_single_cell(self):
        self.assertTrue(same(copies_of(5, 1, 9), [(5, 9)]))
        self.assertTrue(same(copies_of(5, 1, 2), [(5, 2)]))

    def test_a_large_one(self):
        self.assertEqual(copies_of(0, 240, 1), [(at, at + 1) for at in range(239, -1, -1)])
        self.assertEqual(copies_of(1, 240, 0), [(at + 1, at) for at in range(240)])

    def test_a_slide_brings_every_cell(self):
        for start in range(6):
            for to in range(6):
                for size in range(1, 7):
                    cells = list(range(100, 112))
                    done = carried(cells, copies_of(start, size, to))
                    self.assertEqual(done[to:to + size], cells[start:start + size], (start, size, to))
                    self.assertTrue(is_clean(copies_of(start, size, to)))

    def test_told_lists_are_the_askers_own(self):
        for to in [2, 5, 9]:
            before = list(copies_of(5, 2, to))
            copies_of(5, 2, to).append((0, 0))
            self.assertEqual(copies_of(5, 2, to), before)


class IsCleanTest(unittest.TestCase):
    def test_clean(self):
        for told in [
            [], [(3, 3)], [(3, 4)], [(3, 4), (2, 3)], [(1, 2), (1, 2)], [(1, 2), (1, 3)], [(0, 5), (1, 5)],
            [(-4, 3), (2, -4)], [(BIG, -BIG)], [(0, 1), (2, 3), (4, 5)], [(3, 4), (3, 3)],
        ]:
            self.assertIs(is_clean(told), True, told)

    def test_not_clean(self):
        for told in [
            [(3, 3), (3, 4)], [(3, 4), (4, 5)], [(1, 2), (3, 4), (2, 5)], [(1, 2), (2, 1)], [(0, -1), (-1, 0)],
            [(3, 3), (3, 3)], [(0, BIG), (BIG, 0)], [(1, 2), (5, 6), (7, 8), (6, 6)],
        ]:
            self.assertIs(is_clean(told), False, told)

    def test_things_of_every_kind(self):
        for thing in things():
            self.assertIs(is_clean(thing), thing == [] and isinstance(thing, list) or same(thing, [(0, 16)]), thing)
            if not same(thing, (0, 1)):
                self.assertIs(is_clean([thing]), False, thing)

    def test_truths_are_no_numbers(self):
        for told in [[(True, 2)], [(1, False)], [(True, False)], [(3, 4), (5, True)], [(0, 1), (False, 5)]]:
            self.assertIs(is_clean(told), False, told)

    def test_other_forms(self):
        for told in [
            [[1, 2]], ((1, 2),), [(1, 2, 3)], [(1,)], [()], [(1, "2")], [(1, None)], [((1,), 2)], [(1, [2])],
            [({}, 2)], {(1, 2): 3}, [(3, 4), None], [None, (3, 4)], "ab", nested(10),
        ]:
            self.assertIs(is_clean(told), False, told)

    def test_against_the_words(self):
        chance = random.Random(62)
        seen = {True: 0, False: 0}
        for _ in range(400):
            told = [(chance.randrange(9), chance.randrange(9)) for _ in range(chance.randrange(5))]
            clean = not any(told[b][0] == told[a][1] for b in range(len(told)) for a in range(b))
            self.assertIs(is_clean(told), clean, told)
            seen[clean] += 1
        self.assertGreater(min(seen.values()), 50)

    def test_what_is_handed_in_stays(self):
        told = [(3, 4), (4, 5)]
        is_clean(told)
        self.assertEqual(told, [(3, 4), (4, 5)])


class CarriedTest(unittest.TestCase):
    def test_one_by_one_in_their_order(self):
        self.assertTrue(same(carried([1, 2, 3, 4], [(0, 1), (1, 2), (3, 0)]), [4, 1, 1, 4]))
        self.assertTrue(same(carried([1, 2, 3, 4], [(1, 2), (0, 1), (3, 0)]), [4, 1, 2, 4]))
        self.assertTrue(same(carried([1, 2], [(1, 1)]), [1, 2]))

    def test_no_copies(self):
        self.assertTrue(same(carried([], []), []))
        self.assertTrue(same(carried([7], []), [7]))
        self.assertTrue(same(carried([7], [], 0, 0), [7]))
        self.assertTrue(same(carried([], [(5, 6)], 1), []))

    def test_from_mark_to_mark(self):
        cells = [1, 2, 3, 4]
        copies = [(0, 1), (2, 3), (3, 0)]
        for first, behind, told in [
            (0, 0, [1, 2, 3, 4]), (0, 1, [1, 1, 3, 4]), (0, 2, [1, 1, 3, 3]), (0, 3, [3, 1, 3, 3]),
            (1, 1, [1, 2, 3, 4]), (1, 2, [1, 2, 3, 3]), (1, 3, [3, 2, 3, 3]), (2, 3, [4, 2, 3, 4]),
            (3, 3, [1, 2, 3, 4]),
        ]:
            self.assertTrue(same(carried(cells, copies, first, behind), told), (first, behind))
            if behind == 3:
                self.assertTrue(same(carried(cells, copies, first), told), first)
                self.assertTrue(same(carried(cells, copies, first, None), told), first)
        self.assertTrue(same(carried(cells, copies), [3, 1, 3, 3]))

    def test_cells_hold_any_things(self):
        cells = things()
        copies = [(at, 0) for at in range(len(cells))]
        for behind in range(1, len(cells) + 1):
            told = carried(cells, copies, 0, behind)
            self.assertIs(told[0], cells[behind - 1])
            for at in range(1, len(cells)):
                self.assertIs(told[at], cells[at])

    def test_a_new_list_and_nothing_is_changed(self):
        for copies in [[], [(0, 1)], [(1, 0), (0, 2)]]:
            cells = [[1], {"a": 2}, (3,)]
            before = (copy.deepcopy(cells), copy.deepcopy(copies))
            told = carried(cells, copies)
            self.assertIsNot(told, cells)
            told.append(9)
            self.assertEqual((cells, copies), before)

    def test_first_is_refused(self):
        for copies in [[], [(0, 1)], [(0, 1), (1, 0)], [(0, 99)], [(None, None)]]:
            for thing in not_whole() + [-1, len(copies) + 1, BIG, -BIG]:
                self.assertIs(refusal(NoPlace, carried, [5, 6], copies, thing).at, thing)
        self.assertIs(refusal(NoPlace, carried, [5], [(0, 0)], None).at, None)

    def test_behind_is_refused(self):
        copies = [(0, 1), (1, 0), (9, None)]
        for first in [0, 1, 2, 3]:
            for thing in not_whole() + [-1, first - 1, 4, BIG, -BIG]:
                if thing is not None:
                    self.assertIs(refusal(NoPlace, carried, [5, 6], copies, first, thing).at, thing)

    def test_first_goes_ahead_of_behind(self):
        for first in [4, -1, True, "0", []]:
            for behind in [7, -2, False, None, []]:
                self.assertIs(refusal(NoPlace, carried, [5], [(8, 9)] * 3, first, behind).at, first)

    def test_behind_goes_ahead_of_the_copies(self):
        for behind in [7, -2, False, "1"]:
            self.assertIs(refusal(NoPlace, carried, [5], [(8, 9)] * 3, 1, behind).at, behind)

    def test_places_are_refused(self):
        for thing in not_whole() + [-1, 3, 4, 240, BIG, -BIG]:
            self.assertIs(refusal(NoPlace, carried, [5, 6, 7], [(thing, 1)]).at, thing)
            self.assertIs(refusal(NoPlace, carried, [5, 6, 7], [(1, thing)]).at, thing)
            self.assertIs(refusal(NoPlace, carried, [5, 6, 7], [(0, 1), (2, 2), (1, thing)]).at, thing)
        for copies in [[(0, 0)], [(-1, 0)]]:
            self.assertEqual(refusal(NoPlace, carried, [], copies).at, copies[0][0])

    def test_from_goes_ahead_of_to_and_copy_ahead_of_copy(self):
        self.assertEqual(refusal(NoPlace, carried, [5, 6], [(7, 8)]).at, 7)
        self.assertEqual(refusal(NoPlace, carried, [5, 6], [(0, 8), (7, 9)]).at, 8)
        self.assertEqual(refusal(NoPlace, carried, [5, 6], [(0, 1), (7, 9), (10, 11)]).at, 7)

    def test_only_what_is_to_be_done_is_looked_at(self):
        copies = [(9, 0), (0, 1), (0, 9)]
        self.assertEqual(carried([5, 6], copies, 1, 2), [5, 5])
        self.assertEqual(refusal(NoPlace, carried, [5, 6], copies, 0, 2).at, 9)
        self.assertEqual(refusal(NoPlace, carried, [5, 6], copies, 1).at, 9)

    def test_the_last_of_240_cells(self):
        cells = list(range(240))
        self.assertEqual(carried(cells, [(239, 0), (1, 239)]), [239] + cells[1:239] + [1])
        self.assertEqual(refusal(NoPlace, carried, cells, [(240, 0)]).at, 240)

    def rows(self):
        chance = random.Random(63)
        for _ in range(60):
            yield chance, [(chance.randrange(8), chance.randrange(8)) for _ in range(chance.randrange(9))]

    def test_broken_off_and_gone_on_with(self):
        for _, copies in self.rows():
            cells = list("abcdefgh")
            done = carried(cells, copies)
            for mark in range(len(copies) + 1):
                self.assertEqual(carried(carried(cells, copies, 0, mark), copies, mark), done)

    def test_a_clean_row_gone_on_with_from_one_ahead(self):
        clean = 0
        for _, copies in self.rows():
            if is_clean(copies):
                clean += 1
                cells = list("abcdefgh")
                for mark in range(1, len(copies) + 1):
                    told = carried(carried(cells, copies, 0, mark), copies, mark - 1)
                    self.assertEqual(told, carried(cells, copies))
        self.assertGreater(clean, 10)


if __name__ == "__main__":
    unittest.main()
