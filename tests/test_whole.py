"""[6]: the promise over the whole program, behind rows of deeds of all kinds, by each of the four rules."""

import random
import unittest

from slideroom.copies import carried, copies_of, is_clean
from slideroom.desk import Desk
from slideroom.errors import NoHole, NoRoom, RoomError, Sliding
from slideroom.finding import is_found
from slideroom.holes import is_book
from slideroom.layouts import Layout
from slideroom.memory import Memory
from slideroom.moves import slid, steps_of
from slideroom.packing import fewest_holes, is_tidied, packed, tidied
from slideroom.plans import is_stuck, plan, price_of
from slideroom.prices import is_prices, prices, stretches_of
from slideroom.room import Room
from memories import WORDS, found_made_anew, holes_made_anew, order_made_anew, values
from things import refusal

NAMES = "abcdefghijkl"


def some_moves(layout, chance):
    """Moves that are let by, each to some place that is free then."""
    moves = []
    names = [row[0] for row in layout.blocks() if row[3] == 0]
    chance.shuffle(names)
    for name in names[:chance.randint(1, 4)]:
        places = []
        for to in range(layout.many):
            try:
                slid(layout, [(name, to)])
                places.append(to)
            except RoomError:
                pass
        moves.append((name, chance.choice(places)))
        layout = slid(layout, moves[-1:])
    return moves


class Deeds:
    """A room, and beside it what was written in it last."""

    def __init__(self, word, seed):
        self.chance = random.Random(seed)
        self.room = Room(self.chance.randint(16, 44), word)
        self.written = {}
        self.handles = {}
        self.readers = {}

    def put_in(self, name, handle):
        self.written[name] = [0] * handle.block_size()
        self.handles[name] = handle
        self.readers[name] = handle.reader()

    def do_one(self):
        """One deed, which may be refused; what it was."""
        name, size = self.chance.choice(NAMES), self.chance.choice([1, 2, 2, 3, 3, 4, 5, 7])
        deed = self.chance.choice(["take", "fit"] * 4 + ["give"] * 5 + ["pin", "unpin"] + [
            "slide", "begin", "begin", "pack", "tidy", "room", "write", "write", "write",
        ])
        try:
            self.do(deed, name, size)
        except RoomError:
            return "refused"
        return deed

    def do(self, deed, name, size):
        room = self.room
        if deed in ["take", "fit"]:
            self.put_in(name, getattr(room, deed)(name, size))
        elif deed == "give":
            room.give(name)
            self.written.pop(name)
        elif deed in ["pin", "unpin"]:
            getattr(room, deed)(name)
        elif deed in ["slide", "begin"]:
            getattr(room, deed)(some_moves(room.layout(), self.chance))
        elif deed in ["pack", "tidy"]:
            getattr(room, deed)()
        elif deed == "room":
            room.make_room(size)
        else:
            at = self.chance.randrange(3)
            self.handles[name].write(at, size) if name in self.written else room.write(name, at, size)
            self.written[name][at] = size


class WholeTest(unittest.TestCase):
    def deeds(self, tries=5, many=120):
        """The room behind each deed of some rows of deeds, by each rule; slides under way are among them."""
        for word in WORDS:
            for seed in range(tries):
                told = Deeds(word, 600 + seed)
                for _ in range(many):
                    told.do_one()
                    yield told
                    if told.room.done_copies() is not None and told.chance.randrange(2):
                        told.room.go_on(told.chance.randint(1, 5))
                        yield told

    def still(self, tries=5, many=120):
        for told in self.deeds(tries, many):
            while told.room.done_copies() is not None:
                told.room.go_on(3)
            yield told

    def test_blocks_and_holes(self):
        for told in self.still():
            room = told.room
            cells = [cell for _, start, size, _ in room.blocks() for cell in range(start, start + size)]
            self.assertEqual(len(cells), len(set(cells)))
            self.assertTrue(all(0 <= cell < room.many for cell in cells))
            self.assertEqual(room.holes(), holes_made_anew(room))
            if room.rule_word() != "halves":
                self.assertTrue(is_book(room.layout(), room.holes()))
            again = Memory(room.many, room.rule_word())
            again.stand(Layout(room.many, room.blocks()[::-1]), room.mark())
            self.assertEqual((again.holes(), again.order()), (room.holes(), room.order()))

    def test_a_new_block_lies_where_its_rule_says(self):
        taken = {True: 0, False: 0}
        for told in self.still():
            room, size = told.room, told.chance.choice([1, 2, 3, 5, 9])
            found, mark, holes = found_made_anew(room, room.mark(), size), room.mark(), room.holes()
            if found is None:
                self.assertEqual(refusal(NoHole, room.look, size).largest, room.largest_hole())
                self.assertEqual(refusal(NoHole, room.take, "new", size).largest, room.largest_hole())
            else:
                self.assertEqual(room.look(size), found)
                if room.rule_word() != "halves":
                    self.assertTrue(is_found(room.rule_word(), holes, mark, size, room.look(size)))
                self.assertEqual(room.take("new", size).block_start(), found[0])
                room.give("new")
            taken[found is not None] += 1
        self.assertGreater(min(taken.values()), 100)

    def test_a_fitting_is_refused_just_where_no_slides_help(self):
        seen = {"hole": 0, "slid": 0, "stuck": 0}
        for told in self.still():
            room, size = told.room, told.chance.choice([2, 3, 4, 5, 9])
            if room.rule_word() == "halves":
                continue
            layout = room.layout()
            largest = room.largest_hole()
            try:
                room.fit("new", size)
            except NoRoom as refused:
                self.assertTrue(is_stuck(layout, size, refused.stretches))
                self.assertEqual(room.blocks(), layout.blocks())
                seen["stuck"] += 1
                continue
            self.assertTrue(plan(layout, size).brings())
            seen["hole" if largest >= size else "slid"] += 1
            room.give("new")
        self.assertGreater(min(seen.values()), 20, seen)

    def test_what_is_read_was_written_last(self):
        midst = 0
        for told in self.deeds():
            for name, written in told.written.items():
                self.assertEqual(told.handles[name].all_values(), written)
                self.assertEqual([told.readers[name](at) for at in range(len(written))], written)
                self.assertEqual(told.room.values_of(name), written)
            midst += told.room.done_copies() is not None
        self.assertGreater(midst, 100)

    def test_in_the_midst_of_a_slide(self):
        for told in self.deeds(3):
            room = told.room
            if room.done_copies() is not None:
                self.assertEqual(refusal(Sliding, room.blocks).copied, room.done_copies())
                cells = [room.cell_of(name, at) for name, row in told.written.items() for at in range(len(row))]
                self.assertEqual(len(cells), len(set(cells)))

    def test_a_hole_that_is_asked_for(self):
        seen = {True: 0, False: 0}
        for told in self.still(3, 60):
            room, size = told.room, told.chance.choice([2, 3, 5, 8, 13])
            if room.rule_word() == "halves":
                continue
            layout = room.layout()
            before = values(room)
            paper = room.make_room(size)
            seen[paper.brings()] += 1
            self.assertTrue(is_prices(layout, size, prices(layout, size)))
            self.assertEqual(values(room), before)
            if paper.brings():
                self.assertEqual(price_of(layout, size, paper.slides()), paper.price())
                self.assertGreaterEqual(room.largest_hole(), size)
                self.assertEqual(room.layout().names(), layout.names())
                self.assertEqual([row for row in room.blocks() if row[3]], [row for row in layout.blocks() if row[3]])
            else:
                self.assertTrue(is_stuck(layout, size, paper.counted()))
                self.assertEqual(room.blocks(), layout.blocks())
        self.assertGreater(min(seen.values()), 20)

    def test_copies_broken_off_and_gone_on_with(self):
        for told in self.still(2, 60):
            room = told.room
            if room.rule_word() == "halves" or room.free_cells() == 0:
                continue
            moves = some_moves(room.layout(), told.chance)
            copies = []
            for _, start, size, to in steps_of(room.layout(), moves):
                self.assertTrue(is_clean(copies_of(start, size, to)))
                copies += copies_of(start, size, to)
            cells = list(room.held)
            whole = carried(cells, copies)
            at = told.chance.randint(0, len(copies))
            self.assertEqual(carried(carried(cells, copies, 0, at), copies, at), whole)
            room.begin(moves)
            while room.done_copies() is not None:
                room.go_on(told.chance.randint(1, 4))
            self.assertEqual(room.held, whole)

    def test_sliding_all_to_one_end(self):
        for told in self.still(3, 60):
            room = told.room
            if room.rule_word() == "halves":
                continue
            layout = room.layout()
            way = told.chance.choice(["down", "up"])
            self.assertEqual(room.pack(way), packed(layout, way))
            self.assertEqual(len(room.holes()), fewest_holes(layout))
            self.assertEqual(fewest_holes(room.layout()), fewest_holes(layout))
            self.assertEqual(stretches_of(room.layout()), stretches_of(layout))
            self.assertEqual(room.pack(way), [])
            self.assertTrue(is_tidied(layout, tidied(layout)))
            self.assertEqual(room.order(), order_made_anew(room, room.mark()))

    def test_a_desk_tells_what_stands(self):
        for told in self.still(2, 60):
            room = told.room
            line = f"stand {room.many} {room.rule_word()} {room.mark()}"
            for name, start, size, pins in room.blocks():
                line += f" ; {name} {start} {size} {pins} " + ",".join(map(str, told.written[name]))
            desk = Desk()
            self.assertEqual(desk.answer(line), "ok")
            self.assertEqual("stand " + desk.answer("show"), line)
            for name in told.written:
                self.assertEqual(desk.answer(f"pins {name}"), str(room.pin_count(name)))
            self.assertEqual(desk.answer("order"), " ".join(f"{at}+{size}" for at, size in room.order()) or "-")


if __name__ == "__main__":
    unittest.main()
