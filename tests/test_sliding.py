"""[65], [66]: a memory in which blocks are slid, copy by copy."""

import random
import unittest

from slideroom.copies import carried, copies_of
from slideroom.errors import (
    Fixed, Gone, NoBlock, NoMoves, NoPlace, NoSize, NoSlide, NotSliding, NoValue, Pinned, RoomError, Sliding, Twice,
)
from slideroom.layouts import Layout
from slideroom.memory import Memory
from slideroom.moves import slid, steps_of
from slideroom.sliding import Slider
from memories import SLIDING_WORDS, WORDS, filled, holes_made_anew, order_made_anew, state, taken_as
from things import not_whole, refusal, same, things

BIG = 10 ** 60 - 1
ROWS = [("a", 2, 3, 0), ("b", 7, 2, 0), ("p", 9, 1, 2), ("c", 12, 2, 0)]
MOVES = [("a", 0), ("b", 4), ("c", 13)]
BEHIND = [("a", 0, 3, 0), ("b", 4, 2, 0), ("p", 9, 1, 2), ("c", 13, 2, 0)]


def slider(word="first", rows=ROWS, many=16):
    """A slider with these blocks, every cell of which holds a value of its own."""
    made = Slider(many, word)
    made.stand(Layout(many, rows))
    return filled(made)


def all_moves():
    """Rows of moves that can be done in the blocks of ROWS."""
    return [
        MOVES, [("a", 4)], [("a", 3), ("b", 6)], [("c", 10)], [("c", 14), ("b", 5)], [("b", 5), ("a", 0)],
        [("a", 0), ("b", 3), ("c", 12)], [("b", 7), ("c", 11)],
    ]


class NeverStill(Slider):
    """A slider that always refuses as if a slide were under way: by halves none ever is."""

    def need_still(self):
        raise Sliding(7)


class MadeTest(unittest.TestCase):
    def test_as_a_memory(self):
        self.assertTrue(issubclass(Slider, Memory))
        self.assertEqual(Slider(16).rule_word(), "first")
        for word in WORDS:
            self.assertEqual(state(Slider(16, word)), state(Memory(16, word)))
            self.assertIsNone(Slider(16, word).done_copies())

    def test_refused_as_a_memory(self):
        for thing in [None, "best", [], True]:
            with self.assertRaises(RoomError) as told:
                Slider(15, thing)
            self.assertIs(told.exception.word, thing)
        for thing in [15, 241, True, None]:
            with self.assertRaises(RoomError) as told:
                Slider(thing, "next")
            self.assertIs(told.exception.many, thing)

    def test_it_is_a_memory_while_it_is_still(self):
        for word in WORDS:
            chance = random.Random(65)
            one, other = Slider(32, word), Memory(32, word)
            for _ in range(120):
                name, size, at = chance.choice("abcdef"), chance.randint(1, 9), chance.randrange(5)
                deed, *handed = chance.choice([
                    ("take", name, size), ("take", name, size), ("give", name), ("pin", name), ("unpin", name),
                    ("unpin", name), ("write", name, at, size), ("read", name, at), ("look", size),
                ])
                self.assertEqual(self.answer(one, deed, handed), self.answer(other, deed, handed))
                self.assertEqual(state(one), state(other))

    def answer(self, memory, deed, handed):
        try:
            told = getattr(memory, deed)(*handed)
        except RoomError as refused:
            return (type(refused), vars(refused))
        return told.block_start() if deed == "take" else told

    def test_two_are_apart(self):
        one, other = slider(), slider()
        one.begin(MOVES)
        one.go_on(2)
        self.assertIsNone(other.done_copies())
        other.take("z", 1)


class BeginTest(unittest.TestCase):
    def test_how_many_copies(self):
        for word in SLIDING_WORDS:
            for moves in all_moves():
                made = slider(word)
                copies = sum(size for _, start, size, to in steps_of(made.layout(), moves) if to != start)
                self.assertTrue(same(made.begin(moves), copies))
                self.assertTrue(same(made.done_copies(), 0))

    def test_moves_without_copies(self):
        for word in SLIDING_WORDS:
            made = slider(word)
            before = state(made)
            for moves in [[], [("a", 2)], [("c", 12), ("b", 7)]]:
                self.assertTrue(same(made.begin(moves), 0))
                self.assertIsNone(made.done_copies())
                refusal(NotSliding, made.go_on)
                self.assertEqual(state(made), before)
                self.assertTrue(same(made.slide(moves), 0))
                self.assertEqual(state(made), before)
            made.slide([("a", 1)])
            self.assertEqual(made.blocks()[0], ("a", 1, 3, 0))

    def test_what_is_changed_afterwards_changes_nothing(self):
        made = slider()
        moves = list(MOVES)
        made.begin(moves)
        moves.clear()
        made.go_on(99)
        self.assertEqual((made.blocks(), moves), (BEHIND, []))

    def refused(self, made, error, moves):
        before = state(made)
        told = [refusal(error, asked, moves) for asked in [made.begin, made.slide]]
        self.assertEqual(vars(told[0]), vars(told[1]))
        self.assertIsNone(made.done_copies())
        self.assertEqual(state(made), before)
        return told[0]

    def test_the_moves_own_refusals(self):
        for word in SLIDING_WORDS:
            made = slider(word)
            for thing in things():
                if thing != [] and not same(thing, [(0, 16)]) or not isinstance(thing, list):
                    self.assertIs(self.refused(made, NoMoves, thing).moves, thing)
                if thing not in ["a", "b", "c", "p"]:
                    self.assertIs(self.refused(made, NoBlock, [("a", 1), (thing, 0)]).name, thing)
            self.assertEqual(self.refused(made, Twice, [("a", 0), ("a", 1)]).name, "a")
            told = self.refused(made, Pinned, [("p", 9)])
            self.assertEqual((told.name, told.pins), ("p", 2))
            for to in not_whole() + [-1, 5, BIG, -BIG]:
                self.assertIs(self.refused(made, NoSlide, [("a", to)]).to, to)

    def test_pins_of_the_memory(self):
        made = slider()
        made.pin("a")
        self.assertEqual(self.refused(made, Pinned, [("a", 0)]).pins, 1)
        made.unpin("a")
        self.assertEqual(made.slide([("a", 0)]), 3)

    def test_by_halves_nothing_is_slid(self):
        made = slider("halves", [("a", 0, 3, 0), ("b", 8, 2, 1)])
        for thing in things() + [[("a", 4)], [("a", 0)], [("b", 8)], [("x", 0)], [("a", 0), ("a", 0)]]:
            self.assertEqual(self.refused(made, Fixed, thing).word, "halves")
        refusal(NotSliding, made.go_on)
        self.assertEqual(Slider(16, "halves").take("a", 3).block_start(), 0)


    def test_sliding_goes_ahead_of_fixed(self):
        made = NeverStill(16, "halves")
        for moves in [[], [("a", 0)], None]:
            for asked in [made.begin, made.slide]:
                self.assertEqual(refusal(Sliding, asked, moves).copied, 7)


class GoOnTest(unittest.TestCase):
    def test_one_by_one(self):
        for word in SLIDING_WORDS:
            made = slider(word)
            many = made.begin(MOVES)
            for done in range(1, many + 1):
                self.assertTrue(same(made.go_on(), done))
                self.assertTrue(same(made.done_copies(), done if done < many else None))
            refusal(NotSliding, made.go_on)

    def test_several_at_once(self):
        for word in SLIDING_WORDS:
            for most, told in [(1, 1), (3, 3), (6, 6), (7, 7), (8, 7), (99, 7), (BIG, 7)]:
                made = slider(word)
                self.assertEqual(made.begin(MOVES), 7)
                self.assertTrue(same(made.go_on(most), told))
                self.assertTrue(same(made.done_copies(), told if told < 7 else None))
                if told < 7:
                    left = 7 - told
                    self.assertTrue(same(made.go_on(left), 7))
                    self.assertIsNone(made.done_copies())
                self.assertEqual(made.blocks(), BEHIND)

    def test_below_what_is_left(self):
        made = slider()
        made.begin(MOVES)
        self.assertEqual([made.go_on(2), made.go_on(3), made.go_on(1), made.go_on(5)], [2, 5, 6, 7])

    def test_not_sliding_goes_ahead_of_no_size(self):
        for word in WORDS:
            made = Slider(16, word)
            for thing in things():
                refusal(NotSliding, made.go_on, thing)
            refusal(NotSliding, made.go_on)

    def test_no_size(self):
        for done in range(7):
            made = slider()
            made.begin(MOVES)
            if done > 0:
                made.go_on(done)
            before = (list(made.held), made.done_copies(), made.values_of("a"), made.values_of("b"))
            for thing in not_whole() + [0, -1, -BIG]:
                self.assertIs(refusal(NoSize, made.go_on, thing).size, thing)
            self.assertEqual((list(made.held), made.done_copies(), made.values_of("a"), made.values_of("b")), before)
            made.go_on(99)
            self.assertEqual(made.blocks(), BEHIND)

    def test_behind_the_last_copy(self):
        for word in SLIDING_WORDS:
            for moves in all_moves():
                made = slider(word)
                mark = made.mark()
                layout = slid(made.layout(), moves)
                values = [made.values_of(row[0]) for row in ROWS]
                made.begin(moves)
                made.go_on(99)
                self.assertTrue(same(made.blocks(), layout.blocks()))
                self.assertEqual(made.layout().blocks(), layout.blocks())
                self.assertEqual([made.values_of(row[0]) for row in ROWS], values)
                self.assertEqual(made.holes(), holes_made_anew(made))
                self.assertEqual(made.order(), order_made_anew(made, mark))
                self.assertEqual(made.mark(), mark)
                for name, start, size, _ in layout.blocks():
                    self.assertEqual([made.cell_of(name, at) for at in range(size)], list(range(start, start + size)))

    def test_the_holes_by_hand(self):
        made = slider()
        made.slide(MOVES)
        self.assertEqual(made.holes(), [(3, 1), (6, 3), (10, 3), (15, 1)])
        made.take("z", 3)
        self.assertEqual(made.handle("z").block_start(), 6)

    def test_the_mark_stays(self):
        made = Slider(16, "next")
        taken_as(made, ("a", 3), ("b", 4))
        made.slide([("b", 12)])
        self.assertEqual(made.mark(), 7)
        made.slide([("a", 8)])
        self.assertEqual((made.mark(), made.holes()), (7, [(0, 8), (11, 1)]))
        self.assertEqual(made.take("c", 1).block_start(), 11)

    def test_slide_at_once(self):
        for word in SLIDING_WORDS:
            for moves in all_moves():
                one, other = slider(word), slider(word)
                many = one.slide(moves)
                self.assertTrue(same(many, other.begin(moves)))
                for _ in range(many):
                    other.go_on()
                self.assertIsNone(one.done_copies())
                self.assertEqual(state(one), state(other))

    def test_a_single_copy(self):
        for word in SLIDING_WORDS:
            made = slider(word, [("a", 4, 1, 0)])
            self.assertEqual((made.slide([("a", 9)]), made.done_copies()), (1, None))
            self.assertEqual((made.blocks(), made.values_of("a")), ([("a", 9, 1, 0)], [1000]))
            self.assertEqual((made.begin([("a", 0)]), made.go_on()), (1, 1))
            self.assertEqual((made.blocks(), made.done_copies()), ([("a", 0, 1, 0)], None))

    def test_the_same_cells_as_carried(self):
        for moves in all_moves():
            for broken in range(8):
                made = slider()
                held = list(made.held)
                copies = [one for _, start, size, to in steps_of(made.layout(), moves)
                          for one in copies_of(start, size, to)]
                made.begin(moves)
                if 0 < broken < len(copies):
                    made.go_on(broken)
                    self.assertEqual(made.held, carried(held, copies, 0, broken))
                made.go_on(len(copies))
                self.assertEqual(made.held, carried(held, copies))

    def test_slides_behind_one_another(self):
        made = slider()
        made.slide(MOVES)
        made.slide([("c", 14), ("b", 3)])
        made.slide([("a", 0), ("b", 5)])
        self.assertEqual(made.blocks(), [("a", 0, 3, 0), ("b", 5, 2, 0), ("p", 9, 1, 2), ("c", 14, 2, 0)])
        self.assertEqual(made.values_of("b"), [2000, 2001])

    def test_held_is_the_very_list(self):
        made = slider()
        held = made.held
        made.begin(MOVES)
        made.go_on(2)
        held[made.cell_of("a", 0)] = -1
        held[made.cell_of("a", 2)] = -3
        made.go_on(99)
        self.assertEqual(made.values_of("a"), [-1, 1001, -3])

    def test_held_exchanged_in_the_midst(self):
        made = slider()
        made.begin(MOVES)
        made.go_on(2)
        made.held = list(range(100, 116))
        self.assertEqual(made.values_of("a"), [100, 101, 104])
        made.go_on(99)
        self.assertEqual((made.values_of("a"), made.values_of("b")), ([100, 101, 104], [107, 108]))


REFUSED = {
    "take": 2, "give": 1, "pin": 1, "unpin": 1, "blocks": 0, "layout": 0, "pin_count": 1, "handle": 1, "holes": 0,
    "order": 0, "largest_hole": 0, "free_cells": 0, "look": 1, "stand": 2, "begin": 1, "slide": 1,
}
RIGHT = {
    "take": ("z", 1), "give": ("a",), "pin": ("a",), "unpin": ("p",), "pin_count": ("a",), "handle": ("a",),
    "look": (1,), "stand": (Layout(16, []), 0), "begin": ([("a", 0)],), "slide": ([],),
}


class MidstTest(unittest.TestCase):
    """[66]: behind each single copy."""

    def midst(self, word, moves=MOVES):
        """A slider behind each of its copies, with how many of them are done, and its handles and readers."""
        many = slider(word).begin(moves)
        for done in range(many):
            made = slider(word)
            handles = {row[0]: made.handle(row[0]) for row in ROWS}
            readers = {name: handle.reader() for name, handle in handles.items()}
            made.begin(moves)
            if done > 0:
                made.go_on(done)
            yield made, done, handles, readers

    def places(self, moves, done):
        """Where each cell lies, by going through the copies one by one."""
        layout = Layout(16, ROWS)
        told = {(name, at): start + at for name, start, size, _ in ROWS for at in range(size)}
        for name, start, size, to in steps_of(layout, moves):
            for source, target in copies_of(start, size, to):
                if done > 0:
                    told[name, source - start] = target
                done -= 1
        return told

    def test_where_each_cell_lies(self):
        for word in SLIDING_WORDS:
            for moves in all_moves():
                for made, done, _, _ in self.midst(word, moves):
                    for (name, at), place in self.places(moves, done).items():
                        self.assertTrue(same(made.cell_of(name, at), place), (moves, done, name, at))
                        self.assertTrue(same(made.lies_at(name, at), place))

    def test_by_hand(self):
        made = slider()
        made.begin([("a", 0), ("c", 14)])
        made.go_on(2)
        self.assertEqual([made.cell_of("a", at) for at in range(3)], [0, 1, 4])
        made.go_on(2)
        self.assertEqual([made.cell_of("a", at) for at in range(3)], [0, 1, 2])
        self.assertEqual([made.cell_of("c", at) for at in range(2)], [12, 15])

    def test_read(self):
        for word in SLIDING_WORDS:
            for moves in all_moves():
                for made, _, handles, readers in self.midst(word, moves):
                    for number, (name, _, size, _) in enumerate(ROWS, 1):
                        told = [1000 * number + at for at in range(size)]
                        self.assertEqual(made.values_of(name), told)
                        self.assertEqual(handles[name].all_values(), told)
                        for asked in [handles[name].read, readers[name], handles[name].reader()]:
                            self.assertEqual([asked(at) for at in range(size)], told)
                        self.assertEqual([made.read(name, at) for at in range(size)], told)

    def test_written(self):
        for word in SLIDING_WORDS:
            for moves in all_moves():
                for by_handle in [True, False]:
                    for made, done, handles, readers in self.midst(word, moves):
                        self.check_written(made, handles, readers, by_handle)
                        made.go_on(99)
                        self.assertEqual([made.values_of(row[0]) for row in ROWS], self.new_values())
                        self.assertEqual(made.blocks(), slid(Layout(16, ROWS), moves).blocks())

    def new_values(self):
        return [[-10 * number - at for at in range(row[2])] for number, row in enumerate(ROWS, 1)]

    def check_written(self, made, handles, readers, by_handle):
        for row, told in zip(ROWS, self.new_values()):
            for at, value in enumerate(told):
                if by_handle:
                    self.assertIsNone(handles[row[0]].write(at, value))
                else:
                    self.assertIsNone(made.write(row[0], at, value))
                self.assertEqual((made.read(row[0], at), readers[row[0]](at)), (value, value))
        self.assertEqual([made.values_of(row[0]) for row in ROWS], self.new_values())
        self.assertEqual([handles[row[0]].all_values() for row in ROWS], self.new_values())

    def test_written_between_all_copies(self):
        chance = random.Random(66)
        for moves in all_moves():
            for _ in range(10):
                made = slider(chance.choice(SLIDING_WORDS))
                handles = {row[0]: made.handle(row[0]) for row in ROWS}
                told = {row[0]: made.values_of(row[0]) for row in ROWS}
                made.begin(moves)
                while made.done_copies() is not None:
                    for name in told:
                        at = chance.randrange(len(told[name]))
                        told[name][at] = chance.randint(-99, 99)
                        handles[name].write(at, told[name][at])
                    made.go_on(chance.randint(1, 2))
                    self.assertEqual({name: made.values_of(name) for name in told}, told)

    def test_refused_as_ever(self):
        for made, _, handles, readers in self.midst("first"):
            before = list(made.held)
            for name, _, size, _ in ROWS:
                for thing in not_whole() + [-1, size, BIG]:
                    for asked in [handles[name].read, readers[name]]:
                        self.assertIs(refusal(NoPlace, asked, thing).at, thing)
                    for asked in [made.read, made.cell_of]:
                        self.assertIs(refusal(NoPlace, asked, name, thing).at, thing)
                    self.assertIs(refusal(NoPlace, made.write, name, thing, 1).at, thing)
                    self.assertIs(refusal(NoPlace, handles[name].write, thing, 1).at, thing)
                for thing in not_whole() + [10 ** 30]:
                    self.assertIs(refusal(NoValue, made.write, name, 0, thing).value, thing)
                    self.assertIs(refusal(NoValue, handles[name].write, 0, thing).value, thing)
            for thing in things():
                if thing not in ["a", "b", "c", "p"]:
                    self.assertIs(refusal(NoBlock, made.read, thing, 0).name, thing)
                    self.assertIs(refusal(NoBlock, made.write, thing, 0, 0).name, thing)
                    self.assertIs(refusal(NoBlock, made.cell_of, thing, 0).name, thing)
                    self.assertIs(refusal(NoBlock, made.values_of, thing).name, thing)
            self.assertEqual(made.held, before)

    def test_what_goes_on_as_ever(self):
        for word in SLIDING_WORDS:
            for made, done, handles, _ in self.midst(word):
                self.assertEqual((made.rule_word(), made.mark(), made.used_by(5)), (word, 0, 5))
                self.assertIs(refusal(NoSize, made.used_by, True).size, True)
                self.assertTrue(same(made.done_copies(), done))
                for name, _, size, _ in ROWS:
                    self.assertEqual(handles[name].block_name(), name)
                    self.assertEqual(handles[name].block_size(), size)
                    self.assertIs(handles[name].is_there(), True)

    def test_what_is_refused(self):
        for word in SLIDING_WORDS:
            for made, done, handles, _ in self.midst(word):
                for name, count in REFUSED.items():
                    asked = getattr(made, name)
                    self.assertTrue(same(refusal(Sliding, asked, *RIGHT.get(name, ())).copied, done), name)
                    for thing in things():
                        self.assertEqual(refusal(Sliding, asked, *[thing] * count).copied, done, name)
                for handle in handles.values():
                    self.assertTrue(same(refusal(Sliding, handle.block_start).copied, done))
                self.assertTrue(same(refusal(Sliding, made.need_still).copied, done))
                self.assertEqual(made.done_copies(), done)
                made.go_on(99)
                self.assertEqual(made.blocks(), BEHIND)

    def test_sliding_goes_ahead_of_the_moves_refusals(self):
        for made, done, _, _ in self.midst("first"):
            for moves in [None, [("x", 0)], [("p", 9)], [("a", 99)], [("a", 0), ("a", 0)], MOVES]:
                for asked in [made.begin, made.slide]:
                    self.assertEqual(refusal(Sliding, asked, moves).copied, done)

    def test_gone_goes_ahead_of_sliding(self):
        made = slider()
        old = made.take("z", 1)
        reader = old.reader()
        made.give("z")
        made.take("z", 1)
        made.begin([("a", 1)])
        made.go_on()
        self.assertEqual(refusal(Gone, old.block_start).name, "z")
        for asked in [old.block_size, old.all_values, old.reader]:
            self.assertEqual(refusal(Gone, asked).name, "z")
        self.assertEqual(refusal(Gone, reader, 0).name, "z")
        self.assertEqual(refusal(Gone, old.write, 0, 0).name, "z")
        self.assertIs(old.is_there(), False)

    def test_all_is_as_ever_behind_it(self):
        for word in SLIDING_WORDS:
            made = slider(word)
            handle = made.handle("b")
            made.begin(MOVES)
            made.go_on(99)
            self.assertIsNone(made.need_still())
            self.assertEqual(handle.block_start(), 4)
            made.pin("a")
            made.give("b")
            self.assertIs(handle.is_there(), False)
            self.assertEqual(made.holes(), holes_made_anew(made))
            made.take("z", 1)

    def test_settle_is_not_refused(self):
        made = slider()
        made.begin([("a", 0)])
        made.go_on()
        self.assertIsNone(made.settle("c", 14))
        made.go_on(99)
        self.assertEqual(made.blocks()[3], ("c", 14, 2, 0))


class DeedsTest(unittest.TestCase):
    """Of [6] what speaks of slides: rows of deeds with slides broken off and gone on with."""

    def test_rows_of_deeds(self):
        for word in SLIDING_WORDS:
            for seed in range(4):
                self.check_deeds(Slider(40, word), random.Random(60 + seed))

    def check_deeds(self, made, chance):
        told = {}
        pinned = {}
        handles = {}
        slides = 0
        for _ in range(150):
            name = chance.choice("abcdefg")
            deed = chance.randrange(6)
            if made.done_copies() is not None:
                self.assertRaises(Sliding, made.take, name, 1)
                if chance.randrange(2):
                    made.go_on(chance.randint(1, 4))
            elif deed == 0 and name in told and not pinned[name]:
                made.give(name)
                told.pop(name)
            elif deed == 1 and name in told:
                pinned[name] = not pinned[name]
                (made.pin if pinned[name] else made.unpin)(name)
            elif deed == 2:
                slides += made.begin(self.some_moves(made, chance)) > 0
            elif name not in told and made.largest_hole() >= 7:
                size = chance.randint(1, 7)
                handles[name] = made.take(name, size)
                told[name] = [0] * size
                pinned[name] = False
            if name in told:
                at = chance.randrange(len(told[name]))
                told[name][at] = chance.randint(-9, 9)
                handles[name].write(at, told[name][at])
            self.assertEqual({name: handles[name].all_values() for name in told}, told)
            if made.done_copies() is None:
                self.assertEqual(made.holes(), holes_made_anew(made))
                self.assertEqual(made.order(), order_made_anew(made, made.mark()))
                self.assertEqual({row[0]: row[3] for row in made.blocks()}, {name: int(pinned[name]) for name in told})
        self.assertGreater(slides, 3)

    def some_moves(self, made, chance):
        """Moves that can be done, each to some place that is free then."""
        layout = made.layout()
        names = [row[0] for row in layout.blocks() if row[3] == 0]
        chance.shuffle(names)
        moves = []
        for name in names[:chance.randrange(1, 5)]:
            places = []
            for to in range(layout.many):
                try:
                    slid(layout, [(name, to)])
                    places.append(to)
                except NoSlide:
                    pass
            moves.append((name, chance.choice(places)))
            layout = slid(layout, moves[-1:])
        return moves


if __name__ == "__main__":
    unittest.main()
