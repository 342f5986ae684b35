"""[21] to [25]: the holes of a layout, and the book of holes."""

import copy
import random
import unittest

from slideroom.errors import NoMany, NoPlace, NotFree, NotTaken
from slideroom.holes import Holes, holes_of, is_book
from slideroom.layouts import Layout
from things import not_whole, refusal, same, things

BIG = 10 ** 60 - 1


def layout_of(many, *stretches):
    return Layout(many, [(f"b{start}", start, size, start % 2) for start, size in stretches])


def holes_by_cells(free, many):
    """The holes as [2] tells them, by looking at every stretch there is."""
    told = []
    for start in range(many):
        for behind in range(start + 1, many + 1):
            if all(cell in free for cell in range(start, behind)):
                if start - 1 not in free and behind not in free:
                    told.append((start, behind - start))
    return told


def scattered(chance, many):
    stretches = []
    at = chance.randrange(3)
    while at < many:
        size = min(chance.randint(1, 4), many - at)
        if len(stretches) < 40:
            stretches.append((at, size))
        at += size + chance.randrange(4)
    return stretches


class HolesOfTest(unittest.TestCase):
    def test_no_blocks(self):
        self.assertTrue(same(holes_of(Layout(16, [])), [(0, 16)]))
        self.assertEqual(holes_of(Layout(240, [])), [(0, 240)])

    def test_all_cells_taken(self):
        self.assertEqual(holes_of(layout_of(16, (0, 16))), [])
        self.assertEqual(holes_of(layout_of(16, (0, 5), (5, 1), (6, 10))), [])

    def test_at_both_ends(self):
        self.assertEqual(holes_of(layout_of(16, (0, 1))), [(1, 15)])
        self.assertEqual(holes_of(layout_of(16, (15, 1))), [(0, 15)])
        self.assertEqual(holes_of(layout_of(16, (0, 3), (14, 2))), [(3, 11)])
        self.assertEqual(holes_of(layout_of(16, (1, 14))), [(0, 1), (15, 1)])

    def test_side_by_side(self):
        self.assertEqual(holes_of(layout_of(16, (4, 2), (6, 3), (9, 1))), [(0, 4), (10, 6)])
        self.assertEqual(holes_of(layout_of(16, (10, 1), (4, 2), (7, 3))), [(0, 4), (6, 1), (11, 5)])

    def test_against_every_stretch(self):
        chance = random.Random(21)
        for _ in range(60):
            many = chance.randint(16, 40)
            stretches = scattered(chance, many)
            taken = {cell for start, size in stretches for cell in range(start, start + size)}
            chance.shuffle(stretches)
            told = holes_of(layout_of(many, *stretches))
            self.assertTrue(same(told, holes_by_cells(set(range(many)) - taken, many)))

    def test_told_lists_are_the_askers_own(self):
        layout = layout_of(16, (4, 2))
        holes_of(layout).clear()
        self.assertEqual(holes_of(layout), [(0, 4), (6, 10)])
        self.assertEqual(layout.blocks(), [("b4", 4, 2, 0)])


class IsBookTest(unittest.TestCase):
    def setUp(self):
        self.layout = layout_of(16, (2, 3), (6, 2), (8, 1))
        self.told = [(0, 2), (5, 1), (9, 7)]

    def test_the_holes(self):
        self.assertIs(is_book(self.layout, self.told), True)
        self.assertIs(is_book(Layout(16, []), [(0, 16)]), True)
        self.assertIs(is_book(layout_of(16, (0, 16)), []), True)

    def test_others_beside_them(self):
        for told in [
            [], [(0, 2)], [(0, 2), (5, 1)], [(5, 1), (9, 7)], [(0, 2), (9, 7)],
            [(0, 2), (5, 1), (5, 1), (9, 7)], [(0, 2), (5, 1), (9, 7), (9, 7)], [(0, 2), (0, 2), (5, 1), (9, 7)],
            [(0, 1), (1, 1), (5, 1), (9, 7)], [(0, 2), (5, 1), (9, 3), (12, 4)], [(0, 2), (5, 1), (9, 6), (15, 1)],
            [(0, 6), (9, 7)], [(0, 2), (5, 11)], [(0, 16)], [(0, 2), (2, 3), (5, 1), (9, 7)],
            [(0, 1), (5, 1), (9, 7)], [(0, 3), (5, 1), (9, 7)], [(1, 1), (5, 1), (9, 7)], [(0, 2), (5, 1), (9, 6)],
            [(0, 2), (5, 1), (9, 8)], [(0, 2), (5, 1), (8, 8)], [(0, 2), (4, 2), (9, 7)], [(0, 2), (5, 2), (9, 7)],
            [(0, 2), (5, 1), (10, 6)], [(0, 3), (9, 7)], [(0, 2), (9, 8)], [(0, 2), (4, 1), (9, 7)],
            [(5, 1), (0, 2), (9, 7)], [(9, 7), (5, 1), (0, 2)], [(0, 2), (9, 7), (5, 1)],
            [(0, 2), (5, 1), (9, 7), (16, 1)], [(0, 2), (5, 1), (9, 7), (16, 0)], [(0, 2), (5, 1), (9, 7), (16, BIG)],
            [(0, 2), (5, 1), (9, BIG)], [(0, 2), (5, 1), (BIG, 7)], [(0, 2), (5, 1), (9, -7)],
            [(-1, 3), (5, 1), (9, 7)], [(-16, 2), (5, 1), (9, 7)], [(0, 2), (5, 1), (-7, 7)],
            [(0, 2), (3, 0), (5, 1), (9, 7)], [(0, 2, 0), (5, 1), (9, 7)], [(0,), (5, 1), (9, 7)],
        ]:
            self.assertIs(is_book(self.layout, told), False, told)

    def test_things_of_other_kinds(self):
        self.assertIs(is_book(self.layout, tuple(self.told)), False)
        self.assertIs(is_book(self.layout, {0: 2, 5: 1, 9: 7}), False)
        for thing in things():
            self.assertIs(is_book(self.layout, thing), False, thing)
            for at in range(3):
                self.assertIs(is_book(self.layout, self.told[:at] + [thing] + self.told[at + 1:]), False, thing)
            for at in range(4):
                self.assertIs(is_book(self.layout, self.told[:at] + [thing] + self.told[at:]), False, thing)
            if not same(thing, 5):
                self.assertIs(is_book(self.layout, [(0, 2), (thing, 1), (9, 7)]), False, thing)
            if not same(thing, 1):
                self.assertIs(is_book(self.layout, [(0, 2), (5, thing), (9, 7)]), False, thing)

    def test_lists_in_the_place_of_tuples(self):
        for at in range(3):
            self.assertIs(is_book(self.layout, self.told[:at] + [list(self.told[at])] + self.told[at + 1:]), False)

    def test_truths_in_the_place_of_numbers(self):
        for told in [[(False, 2), (5, 1), (9, 7)], [(0, 2), (5, True), (9, 7)]]:
            self.assertEqual(told, self.told)
            self.assertIs(is_book(self.layout, told), False)
        layout = layout_of(16, (0, 1), (2, 14))
        self.assertIs(is_book(layout, [(1, 1)]), True)
        self.assertIs(is_book(layout, [(True, 1)]), False)

    def test_what_is_handed_in_stays(self):
        told = copy.deepcopy(self.told)
        is_book(self.layout, told)
        self.assertTrue(same(told, self.told))

    def test_what_is_told_is_one(self):
        chance = random.Random(25)
        for _ in range(100):
            many = chance.randint(16, 240)
            layout = layout_of(many, *scattered(chance, many))
            self.assertIs(is_book(layout, holes_of(layout)), True)


class BookMadeTest(unittest.TestCase):
    def test_how_many_cells(self):
        for many in [16, 17, 239, 240]:
            book = Holes(many)
            self.assertTrue(same(book.told(), [(0, many)]))
            self.assertEqual((book.largest_hole(), book.free_cells()), (many, many))
        for thing in not_whole() + [15, 241, 0, -16, BIG, -BIG]:
            self.assertIs(refusal(NoMany, Holes, thing).many, thing)

    def test_two_books_are_apart(self):
        one = Holes(16)
        other = Holes(16)
        one.take(0, 4)
        self.assertEqual(other.told(), [(0, 16)])

    def test_told_lists_are_the_askers_own(self):
        book = Holes(16)
        book.told().clear()
        book.told().append((3, 4))
        self.assertEqual(book.told(), [(0, 16)])


class BookAskedTest(unittest.TestCase):
    def setUp(self):
        self.book = Holes(16)
        self.book.take(2, 3)
        self.book.take(8, 1)

    def test_told(self):
        self.assertEqual(self.book.told(), [(0, 2), (5, 3), (9, 7)])
        self.assertEqual((self.book.largest_hole(), self.book.free_cells()), (7, 12))

    def test_the_greatest_hole_anywhere(self):
        book = Holes(16)
        book.take(9, 1)
        self.assertEqual((book.told(), book.largest_hole()), ([(0, 9), (10, 6)], 9))
        book.take(0, 9)
        book.take(10, 6)
        self.assertEqual((book.told(), book.largest_hole(), book.free_cells()), ([], 0, 0))

    def test_has(self):
        free = {0, 1, 5, 6, 7, 9, 10, 11, 12, 13, 14, 15}
        for start in range(-2, 19):
            for size in range(-2, 19):
                told = start >= 0 and size >= 1 and all(cell in free for cell in range(start, start + size))
                self.assertIs(self.book.has(start, size), told, (start, size))

    def test_has_of_any_things(self):
        for thing in not_whole() + [BIG, -BIG]:
            self.assertIs(self.book.has(thing, 1), False, thing)
            self.assertIs(self.book.has(0, thing), False, thing)
            self.assertIs(self.book.has(thing, thing), False, thing)

    def test_hole_at(self):
        told = [self.book.hole_at(cell) for cell in range(16)]
        self.assertEqual(told, [(0, 2)] * 2 + [None] * 3 + [(5, 3)] * 3 + [None] + [(9, 7)] * 7)

    def test_hole_at_no_place(self):
        for thing in not_whole() + [-1, 16, 17, 240, BIG, -BIG]:
            self.assertIs(refusal(NoPlace, self.book.hole_at, thing).at, thing)
        Holes(240).hole_at(239)
        self.assertEqual(refusal(NoPlace, Holes(240).hole_at, 240).at, 240)


class TakenAndGivenTest(unittest.TestCase):
    def test_at_the_beginning_the_end_and_amid(self):
        book = Holes(16)
        self.assertIsNone(book.take(0, 2))
        self.assertEqual(book.told(), [(2, 14)])
        book.take(15, 1)
        self.assertEqual(book.told(), [(2, 13)])
        book.take(6, 4)
        self.assertEqual(book.told(), [(2, 4), (10, 5)])
        book.take(2, 4)
        self.assertEqual(book.told(), [(10, 5)])
        self.assertIsNone(book.give(7, 1))
        self.assertEqual(book.told(), [(7, 1), (10, 5)])
        book.give(8, 2)
        self.assertEqual(book.told(), [(7, 8)])
        book.give(0, 7)
        self.assertEqual(book.told(), [(0, 15)])
        book.give(15, 1)
        self.assertEqual(book.told(), [(0, 16)])

    def test_all_cells_at_once_and_one_by_one(self):
        for many in [16, 240]:
            book = Holes(many)
            book.take(0, many)
            self.assertEqual(book.told(), [])
            for cell in range(many):
                book.give(cell, 1)
                self.assertEqual(book.told(), [(0, cell + 1)])
            for cell in reversed(range(many)):
                book.take(cell, 1)
            self.assertEqual(book.told(), [])
            book.give(0, many)
            self.assertEqual(book.told(), [(0, many)])

    def test_given_otherwise_than_taken(self):
        book = Holes(16)
        book.take(0, 4)
        book.take(4, 4)
        book.give(2, 4)
        self.assertEqual(book.told(), [(2, 4), (8, 8)])

    def check_refused(self, book, start, size):
        """Refuse to take, or to give, or both, as the book's cells stand, and stay as it was."""
        before = book.told()
        free = {cell for first, many in before for cell in range(first, first + many)}
        is_stretch = type(start) is int and type(size) is int and start >= 0 and size >= 1 and start + size <= 16
        cells = range(start, start + size) if is_stretch else []
        if not is_stretch or any(cell not in free for cell in cells):
            told = refusal(NotFree, book.take, start, size)
            self.assertIs(told.start, start)
            self.assertIs(told.size, size)
        if not is_stretch or any(cell in free for cell in cells):
            told = refusal(NotTaken, book.give, start, size)
            self.assertIs(told.start, start)
            self.assertIs(told.size, size)
        self.assertEqual(book.told(), before)

    def test_refused_and_as_it_was(self):
        book = Holes(16)
        book.take(2, 3)
        book.take(7, 2)
        book.take(15, 1)
        for start in range(-2, 19):
            for size in range(-2, 19):
                self.check_refused(book, start, size)
        for thing in things() + [-2, -16]:
            for other in things():
                self.check_refused(book, thing, other)
                self.check_refused(book, other, thing)

    def test_refused_where_all_is_free_or_taken(self):
        book = Holes(16)
        for start, size in [(0, 17), (16, 1), (15, 2), (BIG, 1), (0, BIG), (-1, 2), (0, 0), (True, 1), (0, True)]:
            self.check_refused(book, start, size)
        book.take(0, 16)
        for start, size in [(0, 17), (16, 1), (15, 2), (BIG, 1), (0, BIG), (-1, 2), (0, 0), (True, 1), (0, True)]:
            self.check_refused(book, start, size)

    def test_against_cells_one_by_one(self):
        chance = random.Random(23)
        for many in [16, 23, 40]:
            book = Holes(many)
            free = set(range(many))
            for _ in range(400):
                start = chance.randrange(many)
                cells = set(range(start, min(many, start + chance.randint(1, 6))))
                if cells <= free:
                    book.take(start, len(cells))
                    free -= cells
                elif not cells & free:
                    book.give(start, len(cells))
                    free |= cells
                else:
                    refusal(NotFree, book.take, start, len(cells))
                    refusal(NotTaken, book.give, start, len(cells))
                self.assertEqual(book.told(), holes_by_cells(free, many))
                self.assertEqual(book.free_cells(), len(free))


class SameAsTheLayoutTest(unittest.TestCase):
    def test_in_whatever_order_and_pieces(self):
        chance = random.Random(24)
        for _ in range(60):
            many = chance.randint(16, 240)
            stretches = scattered(chance, many)
            layout = layout_of(many, *stretches)
            cells = [cell for start, size in stretches for cell in range(start, start + size)]
            book = Holes(many)
            detour = chance.randrange(1, many)
            book.take(0, detour)
            book.give(0, detour)
            chance.shuffle(cells)
            for cell in cells:
                book.take(cell, 1)
            self.assertTrue(same(book.told(), holes_of(layout)))
            self.assertEqual(book.free_cells(), layout.free_cells())
            whole = Holes(many)
            chance.shuffle(stretches)
            for start, size in stretches:
                whole.take(start, size)
            self.assertTrue(same(whole.told(), book.told()))
            self.assertIs(is_book(layout, whole.told()), True)


if __name__ == "__main__":
    unittest.main()
