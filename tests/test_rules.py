"""[31] to [35]: the rules first, tightest and next."""

import random
import unittest

from slideroom.errors import NoHole, NoMany, NoPlace, NoSize, NotFree, NotTaken
from slideroom.rules import First, Next, Rule, Tightest
from things import not_whole, refusal, same, things

BIG = 10 ** 60 - 1
RULES = [First, Tightest, Next]


def rule_with(rule, *stretches):
    """The rule with just these stretches put."""
    for start, size in stretches:
        rule.put(start, size)
    return rule


def state(rule):
    return (rule.mark(), rule.order(), rule.holes(), rule.largest_hole(), rule.free_cells())


# Of 40 cells these leave the holes (0, 3), (5, 2), (10, 6), (20, 2), (25, 3) and (30, 10).
TAKEN = [(3, 2), (7, 3), (16, 4), (22, 3), (28, 2)]
LEFT = [(0, 3), (5, 2), (10, 6), (20, 2), (25, 3), (30, 10)]


class MadeTest(unittest.TestCase):
    def test_each_stands_straight_under_rule(self):
        for made in RULES:
            self.assertEqual(made.__bases__, (Rule,))
            for other in RULES:
                self.assertEqual(issubclass(made, other), made == other)
            self.assertIsInstance(made(16), Rule)
        self.assertTrue(callable(Rule.take) and callable(Rule.look))

    def test_words(self):
        self.assertEqual([made(16).rule_word() for made in RULES], ["first", "tightest", "next"])

    def test_all_cells_are_free_at_first(self):
        for made in RULES:
            for many in [16, 240]:
                self.assertTrue(same(state(made(many)), (0, [(0, many)], [(0, many)], many, many)))

    def test_how_many_cells(self):
        for made in RULES:
            for thing in not_whole() + [15, 241, 0, -16, BIG, -BIG]:
                self.assertIs(refusal(NoMany, made, thing).many, thing)

    def test_two_rules_are_apart(self):
        for made in RULES:
            one = made(16)
            other = made(16)
            one.take(5)
            self.assertEqual(state(other), (0, [(0, 16)], [(0, 16)], 16, 16))

    def test_told_lists_are_the_askers_own(self):
        for made in RULES:
            rule = rule_with(made(40), *TAKEN)
            before = state(rule)
            rule.holes().clear()
            rule.order().append((0, 1))
            rule.look(10)[1].clear()
            self.assertEqual(state(rule), before)
            self.assertTrue(same(rule.look(10), rule.look(10)))


class MarkTest(unittest.TestCase):
    def test_handed_in(self):
        self.assertEqual(Next(16).mark(), 0)
        for mark in [0, 1, 15, 16]:
            self.assertEqual(Next(16, mark).mark(), mark)
            self.assertEqual(Next(many=16, mark=mark).mark(), mark)
        self.assertEqual(Next(240, 240).mark(), 240)

    def test_refused(self):
        for thing in not_whole() + [-1, 17, 240, BIG, -BIG]:
            self.assertIs(refusal(NoPlace, Next, 16, thing).at, thing)

    def test_how_many_cells_goes_first(self):
        for mark in [-1, 17, None, True]:
            self.assertEqual(refusal(NoMany, Next, 15, mark).many, 15)

    def test_behind_a_take(self):
        rule = Next(16)
        rule.take(5)
        self.assertEqual(rule.mark(), 5)
        rule.take(1)
        self.assertEqual(rule.mark(), 6)
        rule.take(10)
        self.assertTrue(same(rule.mark(), 16))

    def test_nothing_else_changes_it(self):
        rule = Next(16, 3)
        rule.put(8, 2)
        self.assertEqual(rule.mark(), 3)
        rule.look(4)
        self.assertEqual(rule.mark(), 3)
        rule.give(8, 1)
        self.assertEqual(rule.mark(), 3)
        refusal(NoHole, rule.take, 16)
        refusal(NoSize, rule.take, 0)
        refusal(NoHole, rule.look, 16)
        refusal(NotFree, rule.put, 9, 1)
        refusal(NotTaken, rule.give, 8, 2)
        rule.used_by(7)
        rule.order()
        self.assertEqual(rule.mark(), 3)

    def test_of_the_others_it_is_nought(self):
        for made in [First, Tightest]:
            rule = made(16)
            rule.take(5)
            rule.put(8, 2)
            rule.give(0, 5)
            self.assertTrue(same(rule.mark(), 0))


class OrderTest(unittest.TestCase):
    def test_first(self):
        self.assertTrue(same(rule_with(First(40), *TAKEN).order(), LEFT))

    def test_tightest(self):
        told = rule_with(Tightest(40), *TAKEN).order()
        self.assertTrue(same(told, [(5, 2), (20, 2), (0, 3), (25, 3), (10, 6), (30, 10)]))

    def test_next(self):
        for mark, begin in [
            (0, 0), (1, 1), (3, 1), (5, 1), (6, 2), (10, 2), (11, 3), (15, 3), (16, 3), (20, 3), (21, 4), (25, 4),
            (26, 5), (30, 5), (31, 6), (39, 6), (40, 6),
        ]:
            told = rule_with(Next(40, mark), *TAKEN).order()
            self.assertTrue(same(told, LEFT[begin:] + LEFT[:begin]), (mark, told))

    def test_holes_and_sizes(self):
        for rule in [First(40), Tightest(40), Next(40), Next(40, 21)]:
            rule_with(rule, *TAKEN)
            self.assertTrue(same(rule.holes(), LEFT))
            self.assertEqual((rule.largest_hole(), rule.free_cells()), (10, 26))

    def test_without_holes(self):
        for made in RULES:
            rule = rule_with(made(16), (0, 16))
            self.assertTrue(same(state(rule), (0, [], [], 0, 0)))


class LookTest(unittest.TestCase):
    def test_first(self):
        rule = rule_with(First(40), *TAKEN)
        for size, told in [
            (1, (0, [])), (3, (0, [])), (4, (10, LEFT[:2])), (6, (10, LEFT[:2])), (7, (30, LEFT[:5])),
            (10, (30, LEFT[:5])),
        ]:
            self.assertTrue(same(rule.look(size), told), size)

    def test_tightest(self):
        rule = rule_with(Tightest(40), *TAKEN)
        order = rule.order()
        for size, told in [
            (1, (5, [])), (2, (5, [])), (3, (0, order[:2])), (4, (10, order[:4])), (6, (10, order[:4])),
            (7, (30, order[:5])), (10, (30, order[:5])),
        ]:
            self.assertTrue(same(rule.look(size), told), size)

    def test_next(self):
        for mark, size, told in [
            (0, 3, (0, [])), (1, 3, (10, [(5, 2)])), (21, 3, (25, [])), (21, 6, (30, [(25, 3)])),
            (31, 3, (0, [])), (31, 4, (10, [(0, 3), (5, 2)])), (31, 10, (30, LEFT[:5])), (30, 7, (30, [])),
            (40, 1, (0, [])), (11, 6, (30, [(20, 2), (25, 3)])),
        ]:
            rule = rule_with(Next(40, mark), *TAKEN)
            self.assertTrue(same(rule.look(size), told), (mark, size))

    def test_a_mark_in_the_midst_of_a_hole(self):
        rule = Next(16, 5)
        self.assertTrue(same(rule.look(3), (0, [])))
        rule.put(10, 1)
        self.assertTrue(same(rule.look(3), (11, [])))
        self.assertTrue(same(rule.look(6), (0, [(11, 5)])))

    def test_without_any_change(self):
        for rule in [First(40), Tightest(40), Next(40, 12)]:
            rule_with(rule, *TAKEN)
            before = state(rule)
            for size in range(1, 11):
                rule.look(size)
            self.assertEqual(state(rule), before)

    def test_no_size(self):
        for made in RULES:
            for rule in [made(16), rule_with(made(16), (0, 16))]:
                for thing in not_whole() + [0, -1, -BIG]:
                    for asked in [rule.look, rule.take, rule.used_by]:
                        self.assertIs(refusal(NoSize, asked, thing).size, thing)

    def test_no_hole(self):
        for made in RULES:
            rule = rule_with(made(40), *TAKEN)
            before = state(rule)
            for size in [11, 26, 40, 41, 240, 10 ** 30, BIG]:
                for asked in [rule.look, rule.take]:
                    told = refusal(NoHole, asked, size)
                    self.assertTrue(same((told.size, told.largest), (size, 10)))
            self.assertEqual(state(rule), before)

    def test_no_hole_at_all(self):
        for made in RULES:
            told = refusal(NoHole, rule_with(made(16), (0, 16)).take, 1)
            self.assertTrue(same((told.size, told.largest), (1, 0)))

    def test_used_by(self):
        for made in RULES:
            for size in [1, 2, 3, 16, 17, 240, 10 ** 29, BIG]:
                self.assertTrue(same(made(16).used_by(size), size))


class TakeTest(unittest.TestCase):
    def test_first(self):
        rule = rule_with(First(40), *TAKEN)
        self.assertEqual([rule.take(2), rule.take(2), rule.take(1), rule.take(4)], [0, 5, 2, 10])
        self.assertEqual(rule.holes(), [(14, 2), (20, 2), (25, 3), (30, 10)])

    def test_tightest(self):
        rule = rule_with(Tightest(40), *TAKEN)
        self.assertEqual([rule.take(2), rule.take(1), rule.take(1), rule.take(4)], [5, 20, 21, 10])
        self.assertEqual(rule.holes(), [(0, 3), (14, 2), (25, 3), (30, 10)])

    def test_next(self):
        rule = rule_with(Next(40, 21), *TAKEN)
        self.assertEqual([rule.take(2), rule.take(1), rule.take(9), rule.take(1), rule.take(1)], [25, 27, 30, 39, 0])
        self.assertEqual((rule.mark(), rule.holes()), (1, [(1, 2), (5, 2), (10, 6), (20, 2)]))

    def test_all_cells(self):
        for made in RULES:
            rule = made(16)
            self.assertTrue(same(rule.take(16), 0))
            self.assertEqual(rule.holes(), [])
            rule.give(0, 16)
            self.assertEqual(rule.holes(), [(0, 16)])

    def test_put_and_give(self):
        for made in RULES:
            rule = made(16)
            self.assertIsNone(rule.put(4, 6))
            self.assertEqual(rule.holes(), [(0, 4), (10, 6)])
            self.assertIsNone(rule.give(6, 2))
            self.assertEqual(rule.holes(), [(0, 4), (6, 2), (10, 6)])
            rule.give(8, 2)
            rule.give(4, 2)
            self.assertEqual(rule.holes(), [(0, 16)])

    def check_refused(self, rule, start, size):
        before = state(rule)
        for error, asked in [(NotFree, rule.put), (NotTaken, rule.give)]:
            told = refusal(error, asked, start, size)
            self.assertIs(told.start, start)
            self.assertIs(told.size, size)
        self.assertEqual(state(rule), before)

    def test_put_and_give_of_any_things(self):
        for rule in [First(16), Tightest(16), Next(16, 7)]:
            rule.put(4, 2)
            for thing in not_whole() + [BIG, -BIG, -1]:
                for start, size in [(thing, 1), (0, thing), (4, thing), (thing, thing)]:
                    self.check_refused(rule, start, size)
            for start, size in [(3, 2), (5, 2), (0, 16), (3, 4), (4, 0), (0, 0), (16, 1), (15, 2), (0, 17)]:
                self.check_refused(rule, start, size)

    def test_put_what_is_taken_and_give_what_is_free(self):
        for made in RULES:
            rule = rule_with(made(16), (4, 2))
            before = state(rule)
            for start, size in [(4, 2), (4, 1), (5, 1)]:
                told = refusal(NotFree, rule.put, start, size)
                self.assertEqual((told.start, told.size), (start, size))
            for start, size in [(0, 4), (6, 10), (0, 1), (15, 1)]:
                told = refusal(NotTaken, rule.give, start, size)
                self.assertEqual((told.start, told.size), (start, size))
            self.assertEqual(state(rule), before)


class AgainstCellsTest(unittest.TestCase):
    """Every rule against a slow one that knows its cells alone."""

    def holes(self, free, many):
        told = []
        for cell in range(many):
            if cell in free and cell - 1 not in free:
                behind = cell
                while behind in free:
                    behind += 1
                told.append((cell, behind - cell))
        return told

    def order(self, rule, holes, mark):
        if isinstance(rule, First):
            return holes
        if isinstance(rule, Tightest):
            return [hole for size in range(1, 241) for hole in holes if hole[1] == size]
        return [hole for hole in holes if hole[0] >= mark] + [hole for hole in holes if hole[0] < mark]

    def test_rows_of_deeds(self):
        for made in RULES:
            chance = random.Random(35)
            for many in [16, 24, 48]:
                self.check_deeds(made(many), many, chance)

    def check_deeds(self, rule, many, chance):
        free = set(range(many))
        mark = 0
        blocks = []
        for _ in range(250):
            holes = self.holes(free, many)
            order = self.order(rule, holes, mark)
            self.assertEqual(state(rule), (mark, order, holes, max([0] + [size for _, size in holes]), len(free)))
            size = chance.randint(1, 7)
            fitting = [at for at, hole in enumerate(order) if hole[1] >= size]
            if blocks and chance.randrange(2):
                start, size = blocks.pop(chance.randrange(len(blocks)))
                rule.give(start, size)
                free |= set(range(start, start + size))
            elif not fitting:
                self.assertEqual(refusal(NoHole, rule.take, size).largest, rule.largest_hole())
            else:
                start = order[fitting[0]][0]
                self.assertEqual(rule.look(size), (start, order[:fitting[0]]))
                self.assertEqual(rule.take(size), start)
                free -= set(range(start, start + size))
                blocks.append((start, size))
                mark = start + size if isinstance(rule, Next) else 0


if __name__ == "__main__":
    unittest.main()
