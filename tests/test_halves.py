"""[41] to [46]: halves of halves."""

import copy
import random
import unittest

from slideroom.errors import NoHole, NoMany, NoSize, NotFree, NotTaken
from slideroom.halves import Halves, is_piece, pieces_of, rounded, wholes_of
from slideroom.rules import First, Next, Rule, Tightest
from things import not_whole, refusal, same, things

BIG = 10 ** 60 - 1
POWERS = [1]
while POWERS[-1] < BIG:
    POWERS.append(POWERS[-1] * 2)


def wholes_by_powers(many):
    told = []
    start = 0
    while start < many:
        size = max(power for power in POWERS if power <= many - start)
        told.append((start, size))
        start += size
    return told


def all_pieces(many):
    """Every piece, by halving the wholes again and again."""
    told = []
    waiting = wholes_by_powers(many)
    while waiting:
        start, size = waiting.pop()
        told.append((start, size))
        if size >= 2:
            waiting += [(start, size // 2), (start + size // 2, size // 2)]
    return told


def cells(piece):
    return set(range(piece[0], piece[0] + piece[1]))


def free_by_pieces(many, taken):
    """The free pieces as [43] tells them: free ones that are no half of a free one."""
    used = set().union(*[cells(piece) for piece in taken])
    free = [piece for piece in all_pieces(many) if not cells(piece) & used]
    halves = {half for start, size in free if size >= 2
              for half in [(start, size // 2), (start + size // 2, size // 2)]}
    return sorted(piece for piece in free if piece not in halves)


def some_pieces(chance, many):
    """Some pieces that share no cell, in any order."""
    pieces = all_pieces(many)
    chance.shuffle(pieces)
    taken = []
    used = set()
    for piece in pieces[:chance.randrange(30)]:
        if not cells(piece) & used:
            taken.append(piece)
            used |= cells(piece)
    return taken


class WholesTest(unittest.TestCase):
    def test_the_example_and_others(self):
        for many, told in [
            (240, [(0, 128), (128, 64), (192, 32), (224, 16)]), (16, [(0, 16)]), (17, [(0, 16), (16, 1)]),
            (31, [(0, 16), (16, 8), (24, 4), (28, 2), (30, 1)]), (32, [(0, 32)]), (33, [(0, 32), (32, 1)]),
            (100, [(0, 64), (64, 32), (96, 4)]), (128, [(0, 128)]),
        ]:
            self.assertTrue(same(wholes_of(many), told), many)

    def test_every_number_of_cells(self):
        for many in range(16, 241):
            self.assertTrue(same(wholes_of(many), wholes_by_powers(many)), many)

    def test_refused(self):
        for thing in not_whole() + [15, 241, 0, -16, BIG, -BIG]:
            self.assertIs(refusal(NoMany, wholes_of, thing).many, thing)

    def test_told_lists_are_the_askers_own(self):
        wholes_of(17).clear()
        self.assertEqual(wholes_of(17), [(0, 16), (16, 1)])


class RoundedTest(unittest.TestCase):
    def test_about_powers_of_two(self):
        self.assertEqual([rounded(size) for size in range(1, 10)], [1, 2, 4, 4, 8, 8, 8, 8, 16])
        for power in POWERS[2:195]:
            self.assertTrue(same(rounded(power), power))
            self.assertEqual(rounded(power - 1), power)
            self.assertEqual(rounded(power + 1), power * 2)

    def test_many_figures(self):
        for size in [10 ** 29, 10 ** 30 - 1, BIG]:
            self.assertEqual(rounded(size), min(power for power in POWERS if power >= size))

    def test_refused(self):
        for thing in not_whole() + [0, -1, -2, -BIG]:
            self.assertIs(refusal(NoSize, rounded, thing).size, thing)


class IsPieceTest(unittest.TestCase):
    def test_every_stretch(self):
        for many in [16, 17, 23, 31, 32, 47]:
            pieces = set(all_pieces(many))
            for start in range(-3, many + 3):
                for size in range(-3, many + 3):
                    self.assertIs(is_piece(many, start, size), (start, size) in pieces, (many, start, size))

    def test_large_memories(self):
        for many in [100, 128, 239, 240]:
            pieces = set(all_pieces(many))
            for start in range(many + 1):
                for size in POWERS[:9] + [3, 6, 12, 48, 96, 192]:
                    self.assertIs(is_piece(many, start, size), (start, size) in pieces, (many, start, size))

    def test_numbers_of_cells(self):
        for many in [15, 241, 0, -16, BIG, -BIG]:
            self.assertIs(is_piece(many, 0, 1), False)
            self.assertIs(is_piece(many, 0, many), False)

    def test_any_three_things(self):
        for thing in not_whole():
            self.assertIs(is_piece(thing, 0, 1), False, thing)
            self.assertIs(is_piece(16, thing, 1), False, thing)
            self.assertIs(is_piece(16, 0, thing), False, thing)
            self.assertIs(is_piece(thing, thing, thing), False, thing)
        for start, size in [(BIG, 1), (0, BIG), (BIG, BIG), (-BIG, BIG), (0, POWERS[190]), (POWERS[190], 1)]:
            self.assertIs(is_piece(16, start, size), False, (start, size))


class PiecesOfTest(unittest.TestCase):
    def test_some(self):
        for many, taken, told in [
            (16, [], [(0, 16)]),
            (16, [(0, 16)], []),
            (16, [(0, 8)], [(8, 8)]),
            (16, [(5, 1)], [(0, 4), (4, 1), (6, 2), (8, 8)]),
            (16, [(15, 1), (0, 1)], [(1, 1), (2, 2), (4, 4), (8, 4), (12, 2), (14, 1)]),
            (24, [], [(0, 16), (16, 8)]),
            (24, [(16, 4), (8, 8)], [(0, 8), (20, 4)]),
        ]:
            self.assertTrue(same(pieces_of(many, taken), told), (many, taken))

    def test_wholes_side_by_side_are_not_joined(self):
        self.assertEqual(pieces_of(48, []), [(0, 32), (32, 16)])

    def test_against_every_piece(self):
        chance = random.Random(43)
        for _ in range(150):
            many = chance.randint(16, 240)
            taken = some_pieces(chance, many)
            told = pieces_of(many, taken)
            self.assertTrue(same(told, free_by_pieces(many, taken)), (many, taken))
            chance.shuffle(taken)
            self.assertEqual(pieces_of(many, taken), told)

    def test_refused_for_the_number_of_cells(self):
        for thing in not_whole() + [15, 241, BIG]:
            self.assertIs(refusal(NoMany, pieces_of, thing, []).many, thing)
            self.assertIs(refusal(NoMany, pieces_of, thing, [(None, None)]).many, thing)

    def check_refused(self, many, taken, row):
        handed = copy.deepcopy(taken)
        told = refusal(NotFree, pieces_of, many, handed)
        self.assertTrue(same((told.start, told.size), row), (taken, told.start, told.size))
        self.assertTrue(same(handed, taken))

    def test_rows_that_are_no_pieces(self):
        for row in [(1, 2), (0, 3), (0, 32), (8, 16), (16, 1), (-1, 1), (0, 0), (BIG, 1), (0, BIG), (True, 1)]:
            self.check_refused(16, [row], row)
            self.check_refused(16, [(4, 4), row], row)
            self.check_refused(16, [row, (4, 4)], row)
        for thing in not_whole():
            self.check_refused(16, [(thing, 1)], (thing, 1))
            self.check_refused(16, [(0, thing)], (0, thing))
            told = refusal(NotFree, pieces_of, 16, [(thing, thing)])
            self.assertIs(told.start, thing)
            self.assertIs(told.size, thing)

    def test_rows_that_share_a_cell(self):
        for taken, row in [
            ([(0, 8), (0, 8)], (0, 8)), ([(0, 8), (4, 2)], (4, 2)), ([(4, 2), (0, 8)], (0, 8)),
            ([(8, 8), (0, 4), (0, 16)], (0, 16)), ([(0, 4), (5, 1), (4, 4), (0, 4)], (4, 4)),
        ]:
            self.check_refused(16, taken, row)

    def test_the_first_row_goes_first(self):
        self.check_refused(16, [(0, 4), (0, 3), (0, 4)], (0, 3))
        self.check_refused(16, [(0, 4), (0, 4), (0, 3)], (0, 4))

    def test_what_is_handed_in_stays(self):
        taken = [(8, 4), (0, 2)]
        told = pieces_of(16, taken)
        told.clear()
        self.assertEqual((taken, pieces_of(16, taken)), ([(8, 4), (0, 2)], [(2, 2), (4, 4), (12, 4)]))


def state(rule):
    return (rule.taken(), rule.holes(), rule.order(), rule.largest_hole(), rule.free_cells(), rule.mark())


class HalvesTest(unittest.TestCase):
    def test_it_stands_straight_under_rule(self):
        self.assertEqual(Halves.__bases__, (Rule,))
        for other in [First, Tightest, Next]:
            self.assertFalse(issubclass(Halves, other) or issubclass(other, Halves))
        self.assertEqual(Halves(16).rule_word(), "halves")

    def test_refused(self):
        for thing in not_whole() + [15, 241, 0, -16, BIG, -BIG]:
            self.assertIs(refusal(NoMany, Halves, thing).many, thing)

    def test_at_first(self):
        self.assertTrue(same(state(Halves(16)), ([], [(0, 16)], [(0, 16)], 16, 16, 0)))
        told = state(Halves(50))
        self.assertTrue(same(told, ([], [(0, 32), (32, 16), (48, 2)], [(48, 2), (32, 16), (0, 32)], 32, 50, 0)))

    def test_used_by(self):
        for size in [1, 2, 3, 5, 128, 129, 241, 10 ** 29, BIG]:
            self.assertTrue(same(Halves(16).used_by(size), rounded(size)))
        for thing in not_whole() + [0, -1, -BIG]:
            self.assertIs(refusal(NoSize, Halves(16).used_by, thing).size, thing)

    def test_order_by_sizes_then_starts(self):
        rule = Halves(32)
        for start in [0, 9, 20]:
            rule.put(start, 1)
        self.assertTrue(same(rule.holes(), free_by_pieces(32, [(0, 1), (9, 1), (20, 1)])))
        self.assertTrue(same(
            rule.order(),
            [(1, 1), (8, 1), (21, 1), (2, 2), (10, 2), (22, 2), (4, 4), (12, 4), (16, 4), (24, 8)],
        ))

    def test_look(self):
        rule = Halves(32)
        rule.put(0, 2)
        rule.put(16, 4)
        order = [(2, 2), (4, 4), (20, 4), (8, 8), (24, 8)]
        for size, told in [
            (1, (2, [])), (2, (2, [])), (3, (4, order[:1])), (4, (4, order[:1])), (5, (8, order[:3])),
            (8, (8, order[:3])),
        ]:
            self.assertTrue(same(rule.look(size), told), size)
        for size in [9, 16, 32, 10 ** 30, BIG]:
            for asked in [rule.look, rule.take]:
                told = refusal(NoHole, asked, size)
                self.assertTrue(same((told.size, told.largest), (size, 8)))
        self.assertEqual(rule.taken(), [(0, 2), (16, 4)])

    def test_a_hole_between_a_size_and_the_rounded_one(self):
        rule = Halves(24)
        rule.put(0, 16)
        self.assertTrue(same(rule.look(7), (16, [])))
        rule.put(16, 4)
        told = refusal(NoHole, rule.take, 5)
        self.assertTrue(same((told.size, told.largest), (5, 4)))
        self.assertEqual(refusal(NoHole, Halves(24).take, 17).largest, 16)

    def test_no_hole_at_all(self):
        rule = Halves(16)
        rule.take(9)
        self.assertTrue(same(state(rule), ([(0, 16)], [], [], 0, 0, 0)))
        told = refusal(NoHole, rule.take, 1)
        self.assertTrue(same((told.size, told.largest), (1, 0)))

    def test_no_size(self):
        for rule in [Halves(16), Halves(240)]:
            rule.take(9)
            for thing in not_whole() + [0, -1, -BIG]:
                for asked in [rule.look, rule.take]:
                    self.assertIs(refusal(NoSize, asked, thing).size, thing)

    def test_take(self):
        rule = Halves(16)
        self.assertEqual([rule.take(3), rule.take(1), rule.take(2), rule.take(1)], [0, 4, 6, 5])
        self.assertTrue(same(rule.taken(), [(0, 4), (4, 1), (5, 1), (6, 2)]))
        self.assertTrue(same(rule.take(5), 8))
        self.assertEqual((rule.holes(), rule.mark()), ([], 0))

    def test_pieces_join_again(self):
        rule = Halves(16)
        for _ in range(16):
            rule.take(1)
        self.assertEqual(rule.holes(), [])
        rule.give(5, 1)
        self.assertEqual(rule.holes(), [(5, 1)])
        rule.give(6, 1)
        self.assertEqual(rule.holes(), [(5, 1), (6, 1)])
        rule.give(7, 1)
        self.assertEqual(rule.holes(), [(5, 1), (6, 2)])
        rule.give(4, 1)
        self.assertEqual(rule.holes(), [(4, 4)])
        for cell in [0, 1, 2, 3, 8, 9, 10, 11, 12, 13, 14]:
            rule.give(cell, 1)
        self.assertEqual(rule.holes(), [(0, 8), (8, 4), (12, 2), (14, 1)])
        self.assertIsNone(rule.give(15, 1))
        self.assertEqual(rule.holes(), [(0, 16)])

    def test_two_rules_are_apart(self):
        one = Halves(16)
        other = Halves(16)
        one.take(1)
        self.assertEqual(other.taken(), [])

    def test_told_lists_are_the_askers_own(self):
        rule = Halves(16)
        rule.put(8, 1)
        before = state(rule)
        rule.taken().clear()
        rule.taken().append((0, 1))
        rule.holes().clear()
        rule.order().clear()
        rule.look(4)[1].clear()
        self.assertEqual(state(rule), before)


class PutAndGiveTest(unittest.TestCase):
    def setUp(self):
        self.rule = Halves(24)
        self.assertIsNone(self.rule.put(8, 3))
        self.rule.put(16, 8)
        self.rule.put(2, 2)
        self.before = state(self.rule)

    def test_taken_by_rising_starts(self):
        self.assertTrue(same(self.rule.taken(), [(2, 2), (8, 4), (16, 8)]))
        self.assertTrue(same(self.rule.holes(), [(0, 2), (4, 4), (12, 4)]))

    def check_refused(self, error, asked, start, size):
        told = refusal(error, asked, start, size)
        self.assertIs(told.start, start)
        self.assertIs(told.size, size)
        self.assertEqual(state(self.rule), self.before)

    def test_no_pieces(self):
        for start, size in [
            (0, 17), (1, 2), (4, 5), (6, 3), (16, 9), (24, 1), (-1, 1), (-4, 4), (0, 0), (4, -4), (BIG, 1), (0, BIG),
            (-BIG, BIG), (12, 8),
        ]:
            self.check_refused(NotFree, self.rule.put, start, size)
            self.check_refused(NotTaken, self.rule.give, start, size)

    def test_within_and_around_taken_ones(self):
        for start, size in [(8, 1), (8, 2), (10, 2), (11, 1), (16, 4), (23, 1), (2, 1), (0, 4), (0, 8), (0, 16), (8, 8)]:
            self.check_refused(NotFree, self.rule.put, start, size)
            self.check_refused(NotTaken, self.rule.give, start, size)

    def test_free_and_taken_ones(self):
        for start, size in [(0, 2), (0, 1), (4, 4), (4, 3), (12, 4), (15, 1)]:
            self.check_refused(NotTaken, self.rule.give, start, size)
        for start, size in [(2, 2), (8, 4), (8, 3), (16, 8), (16, 5)]:
            self.check_refused(NotFree, self.rule.put, start, size)

    def test_any_things(self):
        for thing in things():
            for other in not_whole():
                for start, size in [(thing, other), (other, thing), (other, 2), (2, other)]:
                    self.check_refused(NotFree, self.rule.put, start, size)
                    self.check_refused(NotTaken, self.rule.give, start, size)

    def test_truths_are_no_places(self):
        rule = Halves(16)
        rule.put(1, 1)
        rule.put(0, 1)
        for start, size in [(True, 1), (False, 1), (1, True), (0, True)]:
            refusal(NotTaken, rule.give, start, size)
        self.assertEqual(rule.taken(), [(0, 1), (1, 1)])

    def test_given_by_another_size_of_the_same_piece(self):
        self.rule.give(8, 4)
        self.assertEqual(self.rule.taken(), [(2, 2), (16, 8)])
        self.rule.give(16, 5)
        self.assertEqual(self.rule.taken(), [(2, 2)])
        self.rule.give(2, 2)
        self.assertEqual((self.rule.taken(), self.rule.holes()), ([], [(0, 16), (16, 8)]))


class RowsOfDeedsTest(unittest.TestCase):
    def test_holes_hang_on_the_taken_pieces_alone(self):
        chance = random.Random(46)
        for many in [16, 30, 61, 240]:
            rule = Halves(many)
            blocks = []
            for _ in range(120):
                self.step(rule, blocks, chance)
                taken = sorted((start, rounded(size)) for start, size in blocks)
                free = free_by_pieces(many, taken)
                order = sorted(free, key=lambda hole: (hole[1], hole[0]))
                largest = max([0] + [size for _, size in free])
                self.assertEqual(state(rule), (taken, free, order, largest, sum(size for _, size in free), 0))
            anew = Halves(many)
            chance.shuffle(blocks)
            for start, size in blocks:
                anew.put(start, size)
            self.assertEqual(state(anew), state(rule))

    def step(self, rule, blocks, chance):
        size = chance.randint(1, 9)
        fitting = [at for at, hole in enumerate(rule.order()) if hole[1] >= rounded(size)]
        if blocks and chance.randrange(5) < 2:
            start, size = blocks.pop(chance.randrange(len(blocks)))
            rule.give(start, size)
        elif not fitting:
            self.assertEqual(refusal(NoHole, rule.take, size).largest, rule.largest_hole())
        else:
            start = rule.order()[fitting[0]][0]
            self.assertEqual(rule.look(size), (start, rule.order()[:fitting[0]]))
            self.assertEqual(rule.take(size), start)
            blocks.append((start, size))


if __name__ == "__main__":
    unittest.main()
