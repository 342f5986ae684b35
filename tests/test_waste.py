"""[91] to [93]: exact fractions, and what is wasted."""

import math
import random
import unittest
from fractions import Fraction

from slideroom.errors import Sliding
from slideroom.layouts import Layout
from slideroom.memory import Memory
from slideroom.room import Room
from slideroom.sliding import Slider
from slideroom.waste import added, fraction, inner_waste, is_less, outer_waste, waste_of
from memories import WORDS, state
from things import refusal, same

LONG = 10 ** 300 - 1


def told_of(worth):
    """A fraction of Python's own as the tuple that is told."""
    return (worth.numerator, worth.denominator)


def some_numbers(chance):
    """A top and a bottom, short or long, with common divisors or without."""
    figures = chance.choice([1, 1, 2, 3, 30, 150, 299])
    common = chance.choice([1, 1, 2, 6, 7, 10])
    top = chance.choice([0, 1, chance.randrange(10 ** figures), chance.randrange(10 ** 3)])
    bottom = chance.choice([1, chance.randint(1, 10 ** figures), chance.randint(1, 10 ** 3)])
    return (top * common, bottom * common)


class FractionTest(unittest.TestCase):
    def check(self, top, bottom, told):
        self.assertTrue(same(fraction(top, bottom), told), (top, bottom, fraction(top, bottom)))

    def test_by_hand(self):
        for top, bottom, told in [
            (0, 1, (0, 1)), (0, 7, (0, 1)), (0, LONG, (0, 1)), (1, 1, (1, 1)), (7, 7, (1, 1)), (6, 4, (3, 2)),
            (4, 6, (2, 3)), (12, 4, (3, 1)), (4, 12, (1, 3)), (5, 1, (5, 1)), (35, 64, (35, 64)), (240, 16, (15, 1)),
            (2 * 3 * 5 * 7, 3 * 7 * 11, (10, 11)),
        ]:
            self.check(top, bottom, told)

    def test_long_numbers(self):
        self.check(LONG, LONG, (1, 1))
        self.check(LONG, 1, (LONG, 1))
        self.check(1, LONG, (1, LONG))
        self.check(LONG - 1, LONG, (LONG - 1, LONG))
        self.check(LONG, 9, (LONG // 9, 1))
        self.check(9, LONG, (1, LONG // 9))
        self.check(6 * 10 ** 298, 4 * 10 ** 298, (3, 2))
        one, other = 1, 1
        while other < 10 ** 299:
            one, other = other, one + other
        self.check(one, other, (one, other))
        self.check(2 * other, 2 * one, (other, one))

    def test_in_lowest_terms_and_of_the_same_worth(self):
        chance = random.Random(91)
        for _ in range(400):
            top, bottom = some_numbers(chance)
            told = fraction(top, bottom)
            self.assertEqual(math.gcd(*told), 1)
            self.assertEqual(told[0] * bottom, top * told[1])
            self.check(top, bottom, told_of(Fraction(top, bottom)))


class AddedTest(unittest.TestCase):
    def test_by_hand(self):
        for one, other, told in [
            ((0, 1), (0, 1), (0, 1)), ((0, 5), (0, 3), (0, 1)), ((1, 2), (0, 3), (1, 2)), ((1, 2), (1, 2), (1, 1)),
            ((1, 2), (1, 3), (5, 6)), ((1, 6), (1, 3), (1, 2)), ((2, 4), (3, 6), (1, 1)), ((5, 1), (7, 1), (12, 1)),
            ((4, 6), (8, 6), (2, 1)),
        ]:
            self.assertTrue(same(added(one, other), told), (one, other))
            self.assertTrue(same(added(other, one), told), (other, one))

    def test_some_pairs(self):
        chance = random.Random(92)
        for _ in range(400):
            one, other = some_numbers(chance), some_numbers(chance)
            told = told_of(Fraction(*one) + Fraction(*other))
            self.assertTrue(same(added(one, other), told))
            self.assertTrue(same(added(other, one), told))

    def test_long_numbers(self):
        self.assertEqual(added((LONG, LONG - 1), (LONG, LONG - 1)), (2 * LONG // 2, (LONG - 1) // 2))
        self.assertEqual(added((LONG, 1), (1, LONG)), (LONG * LONG + 1, LONG))


class IsLessTest(unittest.TestCase):
    def test_by_hand(self):
        for one, other, truth in [
            ((0, 1), (0, 1), False), ((0, 1), (0, 9), False), ((0, 5), (1, 9), True), ((1, 3), (1, 2), True),
            ((2, 4), (1, 2), False), ((1, 2), (2, 4), False), ((2, 3), (3, 4), True), ((7, 1), (6, 1), False),
            ((6, 4), (7, 4), True), ((1, 1), (2, 2), False),
        ]:
            self.assertIs(is_less(one, other), truth)
            if truth:
                self.assertIs(is_less(other, one), False)

    def test_some_pairs(self):
        chance = random.Random(93)
        for _ in range(400):
            one, other = some_numbers(chance), some_numbers(chance)
            self.assertIs(is_less(one, other), Fraction(*one) < Fraction(*other))
            self.assertIs(is_less(other, one), Fraction(*other) < Fraction(*one))

    def test_long_numbers(self):
        self.assertIs(is_less((LONG - 1, LONG), (1, 1)), True)
        self.assertIs(is_less((1, 1), (LONG - 1, LONG)), False)
        self.assertIs(is_less((LONG - 2, LONG - 1), (LONG - 1, LONG)), True)
        self.assertIs(is_less((LONG - 1, LONG), (LONG - 2, LONG - 1)), False)
        self.assertIs(is_less((LONG, LONG), (7, 7)), False)


class OuterWasteTest(unittest.TestCase):
    def check(self, holes, told):
        before = list(holes)
        self.assertTrue(same(outer_waste(holes), told), outer_waste(holes))
        self.assertEqual(holes, before)

    def test_by_hand(self):
        self.check([], (0, 1))
        self.check([(0, 5)], (0, 1))
        self.check([(0, 5), (0, 5)], (1, 2))
        self.check([(0, 3), (9, 7)], (3, 10))
        self.check([(9, 7), (0, 3)], (3, 10))
        self.check([(0, 128), (128, 64), (192, 32), (224, 16)], (7, 15))
        self.check([(2, 1), (4, 1), (6, 1)], (2, 3))
        self.check([(0, 2), (1, 2), (0, 6), (0, 2)], (1, 2))
        self.check([(200, 1)] * 240, (239, 240))

    def test_the_start_counts_for_nothing(self):
        chance = random.Random(94)
        for _ in range(100):
            sizes = [chance.randint(1, 60) for _ in range(chance.randint(1, 40))]
            told = told_of(Fraction(sum(sizes) - max(sizes), sum(sizes)))
            self.check([(chance.randrange(180), size) for size in sizes], told)


class InnerWasteTest(unittest.TestCase):
    def check(self, rows, told):
        before = list(rows)
        self.assertTrue(same(inner_waste(rows), told), inner_waste(rows))
        self.assertEqual(rows, before)

    def test_by_hand(self):
        self.check([], (0, 1))
        self.check([(1, 1)], (0, 1))
        self.check([(4, 3)], (1, 4))
        self.check([(4, 3), (4, 3)], (1, 4))
        self.check([(8, 5), (1, 1), (16, 9)], (2, 5))
        self.check([(16, 9), (8, 5), (1, 1)], (2, 5))
        self.check([(3, 3), (5, 5)], (0, 1))
        self.check([(128, 65)] * 240, (63, 128))

    def test_some_rows(self):
        chance = random.Random(95)
        for _ in range(100):
            asked = [chance.randint(1, 60) for _ in range(chance.randint(1, 40))]
            rows = [(one + chance.randrange(20), one) for one in asked]
            used = sum(row[0] for row in rows)
            self.check(rows, told_of(Fraction(used - sum(asked), used)))


class WasteOfTest(unittest.TestCase):
    def test_without_blocks(self):
        for word in WORDS:
            self.assertTrue(same(waste_of(Memory(16, word)), ((0, 1), (0, 1))))
            told = ((7, 15), (0, 1)) if word == "halves" else ((0, 1), (0, 1))
            self.assertTrue(same(waste_of(Memory(240, word)), told))

    def test_by_hand(self):
        for word in WORDS:
            for made in [Memory(16, word), Slider(16, word), Room(16, word)]:
                made.take("a", 3)
                made.take("b", 5)
                made.give("a")
                # By halves the piece of five cells has eight; the others leave holes of three and of eight cells.
                told = ((0, 1), (3, 8)) if word == "halves" else ((3, 11), (0, 1))
                before = state(made)
                self.assertTrue(same(waste_of(made), told), (word, waste_of(made)))
                self.assertEqual(state(made), before)

    def test_by_halves(self):
        made = Memory(32, "halves")
        for name, size in [("a", 3), ("b", 1), ("c", 6), ("d", 2)]:
            made.take(name, size)
        self.assertEqual(made.holes(), [(5, 1), (16, 16)])
        self.assertTrue(same(waste_of(made), ((1, 17), (1, 5))))

    def test_full(self):
        for word in WORDS:
            made = Memory(16, word)
            made.take("a", 16)
            self.assertTrue(same(waste_of(made), ((0, 1), (0, 1))))
            made = Memory(16, word)
            made.take("a", 9)
            told = ((0, 1), (7, 16)) if word == "halves" else ((0, 1), (0, 1))
            self.assertTrue(same(waste_of(made), told))

    def test_pins_count_for_nothing(self):
        made = Memory(16)
        made.stand(Layout(16, [("a", 2, 3, 5), ("b", 9, 1, 0)]))
        self.assertTrue(same(waste_of(made), ((1, 2), (0, 1))))

    def test_of_what_the_memory_tells(self):
        chance = random.Random(96)
        for word in WORDS:
            made = Memory(60, word)
            for at in range(80):
                name = chance.choice("abcdefghij")
                if name in made.layout().names():
                    made.give(name)
                elif made.largest_hole() >= 8:
                    made.take(name, chance.randint(1, 8))
                rows = [(made.used_by(row[2]), row[2]) for row in made.blocks()]
                self.assertEqual(waste_of(made), (outer_waste(made.holes()), inner_waste(rows)))

    def test_in_the_midst_of_a_slide(self):
        for word in ["first", "tightest", "next"]:
            for made in [Slider(16, word), Room(16, word)]:
                made.stand(Layout(16, [("a", 2, 3, 0), ("b", 9, 1, 0)]))
                made.begin([("a", 0)])
                for done in range(3):
                    self.assertTrue(same(refusal(Sliding, waste_of, made).copied, done))
                    made.go_on()
                self.assertTrue(same(waste_of(made), ((1, 2), (0, 1))))


if __name__ == "__main__":
    unittest.main()
