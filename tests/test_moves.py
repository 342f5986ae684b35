"""[64]: moves, told of a layout."""

import copy
import random
import unittest

from slideroom.copies import copies_of, is_clean
from slideroom.errors import NoBlock, NoMoves, NoSlide, Pinned, RoomError, Twice
from slideroom.layouts import Layout
from slideroom.moves import slid, steps_of
from things import nested, not_whole, refusal, same, things

BIG = 10 ** 60 - 1
ROWS = [("a", 2, 3, 0), ("b", 7, 2, 0), ("p", 9, 1, 2), ("c", 12, 2, 0)]
LAYOUT = Layout(16, ROWS)
NO_MOVES = [thing for thing in things() if not isinstance(thing, list) or thing not in ([], [(0, 16)])] + [
    (("a", 0),), {"a": 0}, {("a", 0): 1}, [["a", 0]], [("a", 0, 1)], [("a",)], [()], ["a0"], ["ab"], [("a", 0), None],
    [("a", 0), ["b", 6]], [("x", 0), ("b",)], ("a", 0), "a0", nested(10), [{"a": 0, "b": 1}], [("p", 9), 3],
]


class StepsTest(unittest.TestCase):
    def check(self, moves, steps, rows):
        before = copy.deepcopy(moves)
        self.assertTrue(same(steps_of(LAYOUT, moves), steps))
        told = slid(LAYOUT, moves)
        self.assertIs(type(told), Layout)
        self.assertTrue(same((told.many, told.blocks()), (16, rows)))
        self.assertEqual(moves, before)
        self.assertEqual(LAYOUT.blocks(), ROWS)

    def test_no_moves(self):
        self.check([], [], ROWS)

    def test_one(self):
        self.check([("a", 0)], [("a", 2, 3, 0)], [("a", 0, 3, 0)] + ROWS[1:])
        self.check([("a", 4)], [("a", 2, 3, 4)], [("a", 4, 3, 0)] + ROWS[1:])
        self.check([("c", 14)], [("c", 12, 2, 14)], ROWS[:3] + [("c", 14, 2, 0)])
        self.check([("c", 10)], [("c", 12, 2, 10)], ROWS[:3] + [("c", 10, 2, 0)])

    def test_several_in_their_order(self):
        self.check([("c", 11), ("a", 1), ("b", 4)], [("c", 12, 2, 11), ("a", 2, 3, 1), ("b", 7, 2, 4)],
                   [("a", 1, 3, 0), ("b", 4, 2, 0), ("p", 9, 1, 2), ("c", 11, 2, 0)])

    def test_what_only_the_moves_ahead_make_possible(self):
        self.check([("a", 0), ("b", 3)], [("a", 2, 3, 0), ("b", 7, 2, 3)],
                   [("a", 0, 3, 0), ("b", 3, 2, 0)] + ROWS[2:])
        self.assertEqual(refusal(NoSlide, steps_of, LAYOUT, [("b", 3), ("a", 0)]).name, "b")
        tight = Layout(16, [("a", 0, 4, 0), ("b", 4, 4, 0), ("c", 8, 4, 0)])
        moves = [("c", 12), ("b", 8), ("a", 4)]
        self.assertEqual(slid(tight, moves).blocks(), [("a", 4, 4, 0), ("b", 8, 4, 0), ("c", 12, 4, 0)])
        for name, to in moves[1:]:
            self.assertEqual(refusal(NoSlide, slid, tight, [(name, to)]).to, to)

    def test_to_its_own_place(self):
        self.check([("b", 7)], [("b", 7, 2, 7)], ROWS)
        self.check([("c", 12), ("b", 7), ("a", 2)], [("c", 12, 2, 12), ("b", 7, 2, 7), ("a", 2, 3, 2)], ROWS)
        full = Layout(16, [("a", 0, 8, 0), ("b", 8, 8, 0)])
        self.assertEqual(steps_of(full, [("b", 8), ("a", 0)]), [("b", 8, 8, 8), ("a", 0, 8, 0)])

    def test_a_block_by_itself(self):
        layout = Layout(16, [("a", 5, 4, 0)])
        for to in range(13):
            self.assertEqual(slid(layout, [("a", to)]).blocks(), [("a", to, 4, 0)])
        for to in [-1, 13]:
            self.assertEqual(refusal(NoSlide, slid, layout, [("a", to)]).to, to)

    def test_forty_moves(self):
        rows = [(f"b{at}", 6 * at, 5, 0) for at in range(40)]
        moves = [(f"b{at}", 6 * at + 1) for at in range(40)]
        layout = Layout(240, rows)
        self.assertEqual(steps_of(layout, moves), [(f"b{at}", 6 * at, 5, 6 * at + 1) for at in range(40)])
        self.assertEqual(slid(layout, moves).blocks(), [(f"b{at}", 6 * at + 1, 5, 0) for at in range(40)])

    def test_told_lists_are_the_askers_own(self):
        moves = [("a", 0)]
        steps_of(LAYOUT, moves).clear()
        told = steps_of(LAYOUT, moves)
        moves.append(("b", 5))
        self.assertEqual(told, [("a", 2, 3, 0)])
        slid(LAYOUT, moves).blocks().clear()
        self.assertEqual(LAYOUT.blocks(), ROWS)


class RefusedTest(unittest.TestCase):
    def both(self, error, moves):
        before = copy.deepcopy(moves)
        told = [refusal(error, asked, LAYOUT, moves) for asked in [steps_of, slid]]
        self.assertEqual(moves, before)
        self.assertEqual(LAYOUT.blocks(), ROWS)
        self.assertEqual(vars(told[0]), vars(told[1]))
        return told[0]

    def test_no_moves(self):
        for thing in NO_MOVES:
            self.assertIs(self.both(NoMoves, thing).moves, thing)

    def test_no_block(self):
        for thing in things():
            if thing not in ["a", "b", "c", "p"]:
                self.assertIs(self.both(NoBlock, [(thing, 0)]).name, thing)
                self.assertIs(self.both(NoBlock, [("a", 1), (thing, None)]).name, thing)
                self.assertIs(self.both(NoBlock, [(thing, thing), (thing, 0)]).name, thing)

    def test_twice(self):
        self.assertEqual(self.both(Twice, [("a", 1), ("a", 0)]).name, "a")
        self.assertEqual(self.both(Twice, [("a", 2), ("a", 2)]).name, "a")
        self.assertEqual(self.both(Twice, [("a", 0), ("b", 6), ("a", None)]).name, "a")
        self.assertEqual(self.both(Twice, [("a", 0), ("b", 6), ("b", 99)]).name, "b")

    def test_pinned(self):
        for to in [9, 10, 0, 99, None, True]:
            told = self.both(Pinned, [("p", to)])
            self.assertTrue(same((told.name, told.pins), ("p", 2)))
        self.assertEqual(self.both(Pinned, [("a", 0), ("p", 9), ("p", 9)]).name, "p")

    def test_no_slide(self):
        for name, low, high in [("a", 0, 4), ("b", 5, 7), ("c", 10, 14)]:
            for to in range(low, high + 1):
                slid(LAYOUT, [(name, to)])
            for to in [low - 1, high + 1, -99, 99, BIG, -BIG] + not_whole():
                told = self.both(NoSlide, [(name, to)])
                self.assertEqual(told.name, name)
                self.assertIs(told.to, to)

    def test_no_slide_behind_the_moves_ahead(self):
        for moves, low, high in [
            ([("a", 0)], 3, 7), ([("a", 4)], 7, 7), ([("a", 1), ("c", 10)], 4, 7),
        ]:
            for to in range(low, high + 1):
                slid(LAYOUT, moves + [("b", to)])
            for to in [low - 1, high + 1]:
                told = self.both(NoSlide, moves + [("b", to)])
                self.assertEqual((told.name, told.to), ("b", to))

    def test_over_another_block(self):
        self.assertEqual(self.both(NoSlide, [("c", 0)]).to, 0)
        layout = Layout(16, [("a", 0, 1, 0), ("b", 3, 1, 0)])
        for name, to in [("a", 3), ("a", 4), ("a", 15), ("b", 0)]:
            told = refusal(NoSlide, slid, layout, [(name, to)])
            self.assertEqual((told.name, told.to), (name, to))

    def test_move_by_move(self):
        self.assertEqual(self.both(NoSlide, [("a", 9), ("x", 0)]).name, "a")
        self.assertEqual(self.both(NoBlock, [("a", 0), ("x", 0), ("p", 9)]).name, "x")
        self.assertEqual(self.both(Pinned, [("p", 9), ("a", 99), ("a", 0)]).name, "p")
        self.assertEqual(self.both(Twice, [("b", 6), ("b", 6), ("p", 0)]).name, "b")
        moves = [("x", 0), ("p", 9), ("a", 99), 7]
        self.assertIs(self.both(NoMoves, moves).moves, moves)


class AgainstTheWordsTest(unittest.TestCase):
    def test_rows_of_moves(self):
        chance = random.Random(64)
        done = {True: 0, False: 0}
        for _ in range(600):
            layout = self.layout(chance)
            names = layout.names() + ["x"]
            moves = [(chance.choice(names), chance.randrange(-1, 22)) for _ in range(chance.randrange(4))]
            told = self.told(layout, moves)
            done[isinstance(told, Layout)] += 1
            if isinstance(told, Layout):
                self.assertEqual(slid(layout, moves).blocks(), told.blocks())
                self.assertEqual([row[0] for row in slid(layout, moves).blocks()], layout.names())
                steps = steps_of(layout, moves)
                self.assertEqual([(name, to) for name, _, _, to in steps], moves)
                self.assertEqual([(name,) + layout.block(name)[1:3] for name, _ in moves],
                                 [step[:3] for step in steps])
            else:
                for asked in [steps_of, slid]:
                    self.assertEqual(vars(refusal(told[0], asked, layout, moves)), told[1])
        self.assertGreater(min(done.values()), 60)

    def layout(self, chance):
        rows = []
        at = chance.randrange(4)
        while at < 20:
            size = min(chance.randint(1, 4), 20 - at)
            rows.append((f"b{len(rows)}", at, size, chance.choice([0, 0, 0, 3])))
            at += size + chance.randrange(5)
        return Layout(20, rows)

    def told(self, layout, moves):
        """The layout behind the moves, or the refusal's class and fields, cell by cell."""
        moved = set()
        for name, to in moves:
            if name not in layout.names():
                return (NoBlock, {"name": name})
            if name in moved:
                return (Twice, {"name": name})
            _, start, size, pins = layout.block(name)
            if pins:
                return (Pinned, {"name": name, "pins": pins})
            others = {cell for row in layout.blocks() if row[0] != name for cell in range(row[1], row[1] + row[2])}
            swept = set(range(min(start, to), max(start, to) + size))
            if swept & others or not swept <= set(range(20)):
                return (NoSlide, {"name": name, "to": to})
            moved.add(name)
            layout = layout.moved(name, to)
        return layout

    def test_copies_of_steps_are_clean(self):
        chance = random.Random(65)
        seen = 0
        for _ in range(1500):
            layout = self.layout(chance)
            moves = [(name, layout.block(name)[1] + chance.randrange(-2, 3)) for name in layout.names()[:3]]
            chance.shuffle(moves)
            try:
                steps = steps_of(layout, moves)
            except RoomError:
                continue
            seen += 1
            self.assertTrue(is_clean([one for _, start, size, to in steps for one in copies_of(start, size, to)]))
        self.assertGreater(seen, 50)


if __name__ == "__main__":
    unittest.main()
