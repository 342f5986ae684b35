"""[85] to [87]: a room that packs, tidies and makes room; and of [6] what speaks of that."""

import random
import unittest

from slideroom.errors import (
    Fixed, NoHole, NoMany, NoName, NoRoom, NoRule, NoSize, NoWay, RoomError, Sliding, TooMany, Twice,
)
from slideroom.handles import Handle
from slideroom.holes import holes_of
from slideroom.layouts import Layout
from slideroom.memory import Memory
from slideroom.moves import slid
from slideroom.packing import fewest_holes, packed, tidied
from slideroom.plans import Plan, Stuck, plan
from slideroom.prices import stretches_of
from slideroom.room import Room
from slideroom.sliding import Slider
from memories import SLIDING_WORDS, WORDS, filled, found_made_anew, holes_made_anew, order_made_anew, state, values
from somelayouts import some_layout
from things import not_whole, refusal, same, things

BIG = 10 ** 60 - 1
ROWS = [("a", 2, 3, 0), ("b", 7, 2, 0), ("p", 9, 1, 2), ("c", 12, 2, 0)]
NO_SIZES = not_whole() + [0, -1, -BIG]
NO_WAYS = things() + ["Down", "up ", ["down"], ("up",)]


def room(word="first", rows=ROWS, many=16, mark=0):
    """A room with these blocks, every cell of which holds a value of its own."""
    made = Room(many, word)
    made.stand(Layout(many, rows), mark)
    return filled(made)


def rooms():
    """Rooms with blocks and pins by chance, by each rule by which blocks are slid."""
    chance = random.Random(85)
    for at in range(60):
        word = SLIDING_WORDS[at % 3]
        layout = some_layout(chance, chance.randint(16, 48), 5, chance.choice([0, 0.2, 0.5, 1]))
        mark = chance.randint(0, layout.many) if word == "next" else 0
        yield room(word, layout.blocks(), layout.many, mark)


def told_of(paper):
    return (type(paper), paper.brings(), paper.price(), paper.gap(), paper.hole(), paper.slides(), paper.counted())


class NeverStill(Room):
    """A room that always refuses as if a slide were under way: by halves none ever is."""

    def need_still(self):
        raise Sliding(7)


class MadeTest(unittest.TestCase):
    def test_as_a_memory(self):
        self.assertTrue(issubclass(Room, Slider))
        self.assertEqual((Room(16).rule_word(), Room(16).many), ("first", 16))
        for word in WORDS:
            self.assertEqual(state(Room(40, word)), state(Memory(40, word)))

    def test_refused_as_a_memory(self):
        for thing in [None, "best", [], True, 16]:
            self.assertIs(refusal(NoRule, Room, 15, thing).word, thing)
        for thing in not_whole() + [15, 241, BIG]:
            self.assertIs(refusal(NoMany, Room, thing, "next").many, thing)
            self.assertIs(refusal(NoMany, Room, thing).many, thing)

    def test_two_are_apart(self):
        one, other = room(), room()
        before = state(other)
        one.pack()
        one.fit("z", 3)
        self.assertEqual(state(other), before)

    def test_it_slides_as_a_slider(self):
        made = room()
        self.assertEqual(made.begin([("a", 0)]), 3)
        self.assertEqual((made.go_on(2), made.done_copies(), made.go_on()), (2, 2, 3))
        self.assertEqual(made.slide([("c", 14)]), 2)


class SameBehindTest(unittest.TestCase):
    """What all deeds of a room leave as it was."""

    def check_behind(self, made, before, layout):
        """The layout is this one, and all that no slide changes is as it was."""
        self.assertEqual(made.blocks(), layout.blocks())
        self.assertEqual(values(made), before["values"])
        self.assertEqual([handle.all_values() for handle in before["handles"]], list(before["values"].values()))
        self.assertEqual([reader(0) for reader in before["readers"]], [row[0] for row in before["values"].values()])
        self.assertEqual((made.mark(), made.rule_word()), before["rule"])
        self.assertIsNone(made.done_copies())
        self.assertEqual(made.holes(), holes_of(layout))
        self.assertEqual(made.order(), order_made_anew(made, made.mark()))

    def ahead(self, made):
        handles = [made.handle(row[0]) for row in made.blocks()]
        return {
            "values": values(made), "handles": handles, "readers": [handle.reader() for handle in handles],
            "rule": (made.mark(), made.rule_word()),
        }


class PackTest(SameBehindTest):
    def test_by_hand(self):
        made = room()
        self.assertTrue(same(made.pack("down"), [("a", 0), ("b", 3), ("c", 10)]))
        self.assertEqual(made.blocks(), [("a", 0, 3, 0), ("b", 3, 2, 0), ("p", 9, 1, 2), ("c", 10, 2, 0)])
        self.assertEqual(made.holes(), [(5, 4), (12, 4)])
        self.assertTrue(same(made.pack("up"), [("c", 14), ("b", 7), ("a", 4)]))
        self.assertEqual(made.holes(), [(0, 4), (10, 4)])
        self.assertEqual(made.values_of("a"), [1000, 1001, 1002])

    def test_the_way_left_out_and_by_its_name(self):
        self.assertEqual(room().pack(), room().pack("down"))
        self.assertEqual(room().pack(way="up"), room().pack("up"))
        self.assertNotEqual(room().pack(), room().pack("up"))

    def test_done_as_told(self):
        for way in ["down", "up"]:
            for made in rooms():
                before, layout = self.ahead(made), made.layout()
                moves = made.pack(way)
                self.assertTrue(same(moves, packed(layout, way)))
                self.check_behind(made, before, slid(layout, moves))
                self.assertEqual(len(made.holes()), fewest_holes(layout))
                moves.append(("z", 0))
                self.assertTrue(same(made.pack(way), []))
                self.check_behind(made, before, slid(layout, packed(layout, way)))

    def test_no_way(self):
        for word in SLIDING_WORDS:
            made = room(word)
            before = state(made)
            for thing in NO_WAYS:
                self.assertIs(refusal(NoWay, made.pack, thing).way, thing)
                self.assertEqual(state(made), before)

    def test_fixed_goes_ahead_of_no_way(self):
        made = Room(16, "halves")
        made.take("a", 3)
        before = state(made)
        for thing in ["down", "up"] + NO_WAYS:
            self.assertEqual(refusal(Fixed, made.pack, thing).word, "halves")
        self.assertEqual(refusal(Fixed, made.pack).word, "halves")
        self.assertEqual(state(made), before)

    def test_sliding_goes_ahead_of_all(self):
        made = room()
        made.begin([("a", 0)])
        made.go_on(2)
        for thing in ["down", "up"] + NO_WAYS:
            self.assertTrue(same(refusal(Sliding, made.pack, thing).copied, 2))
            self.assertEqual(refusal(Sliding, NeverStill(16, "halves").pack, thing).copied, 7)
        self.assertEqual(made.done_copies(), 2)
        self.assertEqual(made.go_on(9), 3)
        self.assertEqual(made.pack(), [("b", 3), ("c", 10)])


class TidyTest(SameBehindTest):
    def test_by_hand(self):
        made = room()
        self.assertTrue(same(made.tidy(), [("c", 14), ("a", 4)]))
        self.assertEqual(made.blocks(), [("a", 4, 3, 0), ("b", 7, 2, 0), ("p", 9, 1, 2), ("c", 14, 2, 0)])
        self.assertTrue(same(made.tidy(), []))
        self.assertTrue(same(Room(16).tidy(), []))

    def test_done_as_told(self):
        for made in rooms():
            before, layout = self.ahead(made), made.layout()
            moves = made.tidy()
            self.assertTrue(same(moves, tidied(layout)[1]))
            moves.clear()
            self.check_behind(made, before, slid(layout, tidied(layout)[1]))
            self.assertEqual(len(made.holes()), fewest_holes(layout))
            self.assertTrue(same(made.tidy(), []))

    def test_refused(self):
        made = Room(16, "halves")
        made.take("a", 3)
        before = state(made)
        self.assertEqual(refusal(Fixed, made.tidy).word, "halves")
        self.assertEqual(state(made), before)
        self.assertEqual(refusal(Sliding, NeverStill(16, "halves").tidy).copied, 7)
        made = room()
        made.begin([("a", 0)])
        self.assertTrue(same(refusal(Sliding, made.tidy).copied, 0))
        self.assertEqual(made.done_copies(), 0)


class PlanForTest(SameBehindTest):
    def test_the_paper_of_the_layout(self):
        for made in rooms():
            before = state(made)
            for size in [1, 2, 3, 5, 8, 13, 21, 34, 48, 240, 241, BIG]:
                self.assertTrue(same(told_of(made.plan_for(size)), told_of(plan(made.layout(), size))))
            self.assertEqual(state(made), before)
            self.assertIsNone(made.done_copies())

    def test_by_hand(self):
        made = room()
        self.assertIs(type(made.plan_for(4)), Plan)
        self.assertEqual((made.plan_for(4).price(), made.plan_for(4).slides()), (2, [("c", 14)]))
        self.assertIs(type(made.plan_for(5)), Stuck)
        self.assertEqual(made.plan_for(5).counted(), [(0, 9, 4), (10, 16, 4)])
        made.pin("c")
        self.assertEqual((made.plan_for(4).price(), made.plan_for(4).slides()), (3, [("a", 4)]))

    def test_a_paper_never_changes(self):
        made = room()
        paper = made.plan_for(4)
        before = told_of(paper)
        made.pack()
        made.give("a")
        self.assertEqual(told_of(paper), before)


class MakeRoomTest(SameBehindTest):
    def test_of_a_plan(self):
        brought = 0
        for made in rooms():
            before, layout = self.ahead(made), made.layout()
            size = min(made.free_cells(), 2 * made.largest_hole())
            if size == 0 or not plan(layout, size).brings():
                continue
            paper = made.make_room(size)
            self.assertTrue(same(told_of(paper), told_of(plan(layout, size))))
            self.check_behind(made, before, slid(layout, paper.slides()))
            self.assertIn(paper.hole(), made.holes())
            self.assertGreaterEqual(made.largest_hole(), size)
            self.assertEqual(made.make_room(size).slides(), [])
            brought += paper.slides() != []
        self.assertGreater(brought, 15)

    def test_of_a_stuck(self):
        for made in rooms():
            before = state(made)
            for size in [made.free_cells() + 1, made.many + 1, BIG]:
                paper = made.make_room(size)
                self.assertIs(type(paper), Stuck)
                self.assertEqual(paper.counted(), stretches_of(made.layout()))
                self.assertEqual(state(made), before)
                self.assertIsNone(made.done_copies())

    def test_where_there_is_a_hole(self):
        for word in SLIDING_WORDS:
            made = room(word)
            before = state(made)
            self.assertEqual((made.make_room(2).price(), made.make_room(1).hole()), (0, (0, 2)))
            self.assertEqual(state(made), before)


class NoSizeTest(unittest.TestCase):
    """What is refused alike of a paper that is told and of room that is made."""

    def deeds(self, made):
        return [made.plan_for, made.make_room]

    def test_no_size(self):
        for word in SLIDING_WORDS:
            made = room(word)
            before = state(made)
            for deed in self.deeds(made):
                for thing in NO_SIZES:
                    self.assertIs(refusal(NoSize, deed, thing).size, thing)
            self.assertEqual(state(made), before)

    def test_fixed_goes_ahead_of_no_size(self):
        made = Room(16, "halves")
        made.take("a", 3)
        before = state(made)
        for deed in self.deeds(made):
            for thing in [1, 4, 16, 17] + NO_SIZES:
                self.assertEqual(refusal(Fixed, deed, thing).word, "halves")
        self.assertEqual(state(made), before)

    def test_sliding_goes_ahead_of_all(self):
        made = room()
        made.begin([("a", 0)])
        made.go_on()
        for thing in [1, 4, 16, 17] + NO_SIZES:
            for deed in self.deeds(made):
                self.assertTrue(same(refusal(Sliding, deed, thing).copied, 1))
            for deed in self.deeds(NeverStill(16, "halves")):
                self.assertEqual(refusal(Sliding, deed, thing).copied, 7)
        self.assertEqual((made.done_copies(), made.go_on(9)), (1, 3))


class FitTest(SameBehindTest):
    def test_a_hole_that_is_large_enough(self):
        for word in WORDS:
            one, other = Room(32, word), Memory(32, word)
            for made in [one, other]:
                for name, size in [("a", 3), ("b", 5), ("c", 2), ("d", 4)]:
                    made.take(name, size)
                made.give("b")
                made.give("d")
            for name, size in [("e", 4), ("f", 1), ("g", 6), ("h", 1)]:
                told = one.fit(name, size)
                self.assertIs(type(told), Handle)
                self.assertEqual(told.block_name(), name)
                self.assertEqual(told.block_start(), other.take(name, size).block_start())
                self.assertEqual(state(one), state(other))

    def test_a_hole_that_is_made(self):
        fitted = 0
        for made in rooms():
            size = made.largest_hole() + 1
            layout = made.layout()
            paper = plan(layout, size)
            if not paper.brings() or len(made.blocks()) == 40:
                continue
            before = values(made)
            handles = [made.handle(row[0]) for row in made.blocks()]
            told = made.fit("new", size)
            self.assertEqual((told.block_start(), told.block_size()), (paper.hole()[0], size))
            self.assertEqual(told.all_values(), [0] * size)
            rows = slid(layout, paper.slides()).blocks() + [("new", paper.hole()[0], size, 0)]
            self.assertEqual(made.blocks(), Layout(made.many, rows).blocks())
            self.assertEqual([handle.all_values() for handle in handles], list(before.values()))
            self.assertEqual(made.holes(), holes_made_anew(made))
            self.assertEqual(made.mark(), told.block_start() + size if made.rule_word() == "next" else 0)
            self.assertIsNone(made.done_copies())
            fitted += 1
        self.assertGreater(fitted, 15)

    def test_by_hand(self):
        for word in SLIDING_WORDS:
            made = room(word, mark=5 if word == "next" else 0)
            told = made.fit("z", 4)
            self.assertEqual((told.block_start(), told.all_values()), (10, [0, 0, 0, 0]))
            self.assertEqual(made.blocks(), ROWS[:3] + [("z", 10, 4, 0), ("c", 14, 2, 0)])
            self.assertEqual(made.values_of("c"), [4000, 4001])
            self.assertEqual(made.mark(), 14 if word == "next" else 0)

    def test_no_room(self):
        for word in SLIDING_WORDS:
            made = room(word, mark=5 if word == "next" else 0)
            before = state(made)
            for size in [5, 6, 8, 16, 17, 240, 241, BIG]:
                told = refusal(NoRoom, made.fit, "z", size)
                self.assertTrue(same((told.size, told.stretches), (size, [(0, 9, 4), (10, 16, 4)])))
                told.stretches.clear()
                self.assertEqual(state(made), before)
                self.assertIsNone(made.done_copies())
            full = room(word, [("a", 0, 16, 0)])
            self.assertEqual(refusal(NoRoom, full.fit, "z", 1).stretches, [(0, 16, 0)])

    def test_by_halves(self):
        made = Room(16, "halves")
        for name in "abcd":
            made.fit(name, 3)
        made.give("a")
        made.give("c")
        before = state(made)
        # By halves no hole is made, though eight cells are free and could lie side by side.
        told = refusal(NoHole, made.fit, "z", 5)
        self.assertTrue(same((told.size, told.largest), (5, 4)))
        told = refusal(NoHole, made.fit, "z", BIG)
        self.assertTrue(same((told.size, told.largest), (BIG, 4)))
        self.assertEqual(state(made), before)
        self.assertEqual(made.fit("z", 4).block_start(), 0)

    def test_each_refusal_by_itself(self):
        for word in WORDS:
            made = Room(240, word)
            made.take("a", 3)
            before = state(made)
            for thing in things():
                if not (isinstance(thing, str) and thing in ["a", "box", "first", "tightest", "next", "halves"]):
                    self.assertIs(refusal(NoName, made.fit, thing, 1).name, thing)
            self.assertEqual(refusal(Twice, made.fit, "a", 1).name, "a")
            for thing in NO_SIZES:
                self.assertIs(refusal(NoSize, made.fit, "z", thing).size, thing)
            self.assertEqual(state(made), before)

    def test_the_first_of_several_refusals(self):
        for word in WORDS:
            made = Room(240, word)
            for at in range(39):
                made.fit(f"b{at}", 1)
            self.assertEqual(refusal(NoName, made.fit, "B0", 0).name, "B0")
            self.assertEqual(refusal(Twice, made.fit, "b0", 0).name, "b0")
            self.assertEqual(refusal(Twice, made.fit, "b0", BIG).name, "b0")
            refusal(NoHole if word == "halves" else NoRoom, made.fit, "z", 240)
            self.assertEqual(made.fit("b39", 1).block_size(), 1)
            before = state(made)
            for size in [1, 200, 240, 241, BIG]:
                self.assertTrue(same(refusal(TooMany, made.fit, "z", size).many, 40))
                self.assertEqual(refusal(Twice, made.fit, "b39", size).name, "b39")
                self.assertEqual(refusal(NoName, made.fit, None, size).name, None)
            self.assertEqual(refusal(NoSize, made.fit, "z", 0).size, 0)
            self.assertEqual(state(made), before)

    def test_forty_blocks_and_one_more(self):
        for word in SLIDING_WORDS:
            made = room(word, [(f"b{at}", 2 * at, 1, 0) for at in range(39)], 80)
            self.assertEqual(made.largest_hole(), 3)
            self.assertEqual(made.fit("z", 40).block_size(), 40)
            self.assertEqual(len(made.blocks()), 40)
            before = state(made)
            self.assertEqual(refusal(TooMany, made.fit, "y", 1).many, 40)
            self.assertEqual(refusal(TooMany, made.fit, "y", 2).many, 40)
            self.assertEqual(state(made), before)

    def test_sliding_goes_ahead_of_all(self):
        for word in SLIDING_WORDS:
            made = room(word)
            made.begin([("a", 0)])
            made.go_on()
            for thing in things() + ["z"]:
                self.assertTrue(same(refusal(Sliding, made.fit, thing, 1).copied, 1))
                self.assertTrue(same(refusal(Sliding, made.fit, "z", thing).copied, 1))
            self.assertEqual(made.go_on(9), 3)
            self.assertEqual(made.fit("z", 4).block_start(), 3)
        for word in WORDS:
            self.assertEqual(refusal(Sliding, NeverStill(16, word).fit, None, None).copied, 7)


class DeedsTest(unittest.TestCase):
    """Of [6] what speaks of rooms, behind rows of deeds."""

    def test_rows_of_deeds(self):
        for word in WORDS:
            done = {"slid": 0, "stuck": 0}
            for seed in range(5):
                self.check_deeds(Room(40, word), random.Random(870 + seed), done)
            self.assertGreater(done["stuck"], 9)
            self.assertTrue(word == "halves" or done["slid"] > 9, done)

    def check_deeds(self, made, chance, done):
        told = {}
        handles = {}
        for at in range(400):
            name, size = chance.choice("abcdefghijklmnop"), chance.choice([1, 2, 3, 4, 5, 6, 8])
            deed = chance.choice(["fit"] * 20 + ["give"] * 16 + ["pin", "unpin", "unpin", "pack", "tidy", "room"])
            if name in told:
                told[name][0] = at
                handles[name].write(0, at)
            if deed == "fit" and name not in told:
                self.check_fit(made, name, size, handles, told, done)
            elif deed in ["give", "pin", "unpin"]:
                self.do_by_name(made, deed, name, told)
            elif made.rule_word() != "halves":
                self.check_slides(made, deed, size)
            self.assertEqual({name: handles[name].all_values() for name in told}, told)
            self.assertEqual(made.layout().names(), [row[0] for row in made.blocks()])
            self.assertEqual(made.holes(), holes_made_anew(made))
            self.assertEqual(made.order(), order_made_anew(made, made.mark()))

    def check_fit(self, made, name, size, handles, told, done):
        found = found_made_anew(made, made.mark(), size)
        layout, largest = made.layout(), made.largest_hole()
        try:
            handles[name] = made.fit(name, size)
        except NoHole as refused:
            self.assertEqual((made.rule_word(), found, refused.largest), ("halves", None, largest))
            done["stuck"] += 1
            return
        except NoRoom as refused:
            self.assertIsNone(found)
            self.assertTrue(all(free < size for _, _, free in refused.stretches))
            self.assertEqual(refused.stretches, stretches_of(layout))
            self.assertEqual(made.blocks(), layout.blocks())
            done["stuck"] += 1
            return
        told[name] = [0] * size
        others = [row for row in made.blocks() if row[0] != name]
        if found is not None:
            self.assertEqual((handles[name].block_start(), others), (found[0], layout.blocks()))
        else:
            self.assertEqual(others, slid(layout, plan(layout, size).slides()).blocks())
            done["slid"] += 1

    def do_by_name(self, made, deed, name, told):
        try:
            getattr(made, deed)(name)
        except RoomError:
            return
        if deed == "give":
            told.pop(name)

    def check_slides(self, made, deed, size):
        layout, mark = made.layout(), made.mark()
        if deed == "pack":
            made.pack("up" if size > 3 else "down")
        elif deed == "tidy":
            made.tidy()
        elif made.make_room(size).brings():
            self.assertGreaterEqual(made.largest_hole(), size)
        else:
            self.assertLess(max(free for _, _, free in stretches_of(layout)), size)
            self.assertEqual(made.blocks(), layout.blocks())
        if deed in ["pack", "tidy"]:
            self.assertEqual(len(made.holes()), fewest_holes(layout))
        self.assertEqual((made.layout().names(), made.mark()), (layout.names(), mark))
        for row in layout.blocks():
            if row[3] > 0:
                self.assertIn(row, made.blocks())


if __name__ == "__main__":
    unittest.main()
