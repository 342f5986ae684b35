"""[105], [106]: a desk that is told lines and answers texts."""

import random
import unittest

from slideroom.desk import Desk
from slideroom.errors import (
    Fixed, NoBlock, NoHole, NoLine, NoMany, NoName, NoPlace, NoRoom, NoRow, NoRule, NoSize, NoSlide, NotFree,
    NotPinned, NoWay, Outside, Overlap, Pinned, RoomError, TooMany, Twice,
)
from slideroom.layouts import Layout
from slideroom.moves import slid
from slideroom.plans import plan
from slideroom.room import Room
from slideroom.waste import waste_of
from memories import SLIDING_WORDS, WORDS
from things import refusal, same, things

MOST = 10 ** 30 - 1
STAND = "stand 16 first 0 ; a 2 3 0 10,11,12 ; b 7 2 0 20,21 ; p 9 1 2 30 ; c 12 2 0 40,41"
OTHERS = [
    "show", "take a 3", "fit a 3", "give a", "pin a", "unpin a", "pins a", "read a 0", "write a 0 1", "cell a 0",
    "values a", "blocks", "holes", "order", "look 3", "plan 3", "room 3", "waste", "slide a 0", "pack down", "tidy",
]


def desk(*lines):
    """A desk that was told these lines."""
    made = Desk()
    for line in lines:
        made.answer(line)
    return made


class DeskTest(unittest.TestCase):
    def check(self, made, line, text):
        told = made.answer(line)
        self.assertTrue(same(told, text), (line, told))

    def refuse(self, made, line, error, **fields):
        """Refused so, and nothing changed by it."""
        before = made.answer("show")
        told = refusal(error, made.answer, line)
        self.assertTrue(same({name: getattr(told, name) for name in fields}, fields), (line, vars(told)))
        self.assertEqual(made.answer("show"), before)


class WithoutRoomTest(DeskTest):
    def test_each_line_but_two(self):
        made = Desk()
        for line in OTHERS:
            self.assertIs(refusal(NoLine, made.answer, line).line, line)
        self.check(made, "memory 16", "ok")

    def test_what_is_no_line(self):
        for made in [Desk(), desk("memory 16"), desk(STAND)]:
            for thing in things() + ["", " show", "show ", "shows", "take a", "take a b", "slide", "stand 16", "memory",
                                     "memory x", "take  a 1", "plan -0", "look 007", "show\n", ["show"], ("show",)]:
                self.assertIs(refusal(NoLine, made.answer, thing).line, thing)

    def test_what_is_refused_brings_no_room(self):
        made = Desk()
        for line, error in [
            ("memory 15", NoMany), ("memory 241 next", NoMany), ("memory 16 best", NoRule), ("memory 15 best", NoRule),
            ("stand 15 first 0", NoMany), ("stand 16 first 1", NoPlace), ("stand 16 first 0 ; A 0 1 0 5", NoRow),
        ]:
            refusal(error, made.answer, line)
            for other in OTHERS:
                self.assertIs(refusal(NoLine, made.answer, other).line, other)


class MemoryTest(DeskTest):
    def test_a_new_room(self):
        for word in WORDS:
            made = Desk()
            self.check(made, f"memory 16 {word}", "ok")
            self.check(made, "show", f"16 {word} 0")
            self.check(made, "blocks", "-")
            self.check(made, "holes", "0+16")
            self.check(made, f"memory 240 {word}", "ok")
            self.check(made, "show", f"240 {word} 0")
        self.check(made, "memory 17", "ok")
        self.check(made, "show", "17 first 0")

    def test_it_takes_the_place_of_the_old_one(self):
        made = desk(STAND)
        self.check(made, "memory 16 next", "ok")
        self.check(made, "show", "16 next 0")
        self.check(made, "take a 16", "0 | -")
        self.check(made, "values a", ",".join(["0"] * 16))

    def test_refused(self):
        for made in [desk("memory 16 next", "take a 3"), desk(STAND)]:
            for many in [15, 241, 0, -16, MOST, -MOST]:
                self.refuse(made, f"memory {many}", NoMany, many=many)
                self.refuse(made, f"memory {many} next", NoMany, many=many)
                self.refuse(made, f"memory {many} best", NoRule, word="best")
            for word in ["best", "First", "7", "next\n", ";"]:
                self.refuse(made, f"memory 16 {word}", NoRule, word=word)


class StandTest(DeskTest):
    def test_what_stands(self):
        made = Desk()
        for line in [STAND, "stand 16 next 7 ; a 0 3 1 5,0,-12 ; box 6 1 0 0", "stand 240 tightest 0",
                     "stand 16 halves 0 ; a 4 3 0 1,2,3 ; b 8 5 7 1,2,3,4,5", f"stand 16 next 16 ; a 3 1 9 -{MOST}"]:
            self.check(made, line, "ok")
            self.check(made, "show", line[len("stand "):])

    def test_blocks_in_any_order(self):
        made = desk("stand 16 next 3 ; b 9 1 0 7 ; a 2 3 1 1,2,3 ; c 0 2 0 8,9")
        self.check(made, "show", "16 next 3 ; c 0 2 0 8,9 ; a 2 3 1 1,2,3 ; b 9 1 0 7")
        self.check(made, "values a", "1,2,3")
        self.check(made, "values c", "8,9")
        self.check(made, "read b 0", "7")

    def test_it_takes_the_place_of_the_old_one(self):
        made = desk("memory 32 next", "take a 20", STAND)
        self.check(made, "show", STAND[len("stand "):])
        self.check(made, "stand 16 first 0", "ok")
        self.check(made, "show", "16 first 0")

    def test_refused(self):
        for made in [desk("memory 16 next", "take a 3"), desk(STAND)]:
            for line, error, fields in [
                ("15 first 0", NoMany, {"many": 15}),
                ("16 best 0", NoRule, {"word": "best"}),
                ("16 first 1", NoPlace, {"at": 1}),
                ("16 first -1", NoPlace, {"at": -1}),
                ("16 next 17", NoPlace, {"at": 17}),
                ("16 halves 4", NoPlace, {"at": 4}),
                ("16 first 0 ; A 0 1 0 5", NoRow, {"row": ("A", 0, 1, 0)}),
                ("16 first 0 ; a -1 1 0 5", NoRow, {"row": ("a", -1, 1, 0)}),
                ("16 first 0 ; a 0 1 -1 5", NoRow, {"row": ("a", 0, 1, -1)}),
                ("16 first 0 ; a 16 1 0 5", Outside, {"name": "a"}),
                ("16 first 0 ; a 0 1 0 5 ; a 3 1 0 5", Twice, {"name": "a"}),
                ("16 first 0 ; a 0 2 0 5,6 ; b 1 1 0 5", Overlap, {"name": "b", "other": "a"}),
                ("16 halves 0 ; a 1 2 0 5,6", NotFree, {"start": 1, "size": 2}),
                ("16 halves 0 ; b 4 1 0 5 ; a 0 5 0 5,6,7,8,9", Overlap, {"name": "a", "other": "b"}),
                ("16 halves 0 ; b 3 1 0 5 ; a 0 3 0 5,6,7", NotFree, {"start": 3, "size": 1}),
                ("240 first 0" + "".join(f" ; b{at} {at} 1 0 5" for at in range(41)), TooMany, {"many": 41}),
            ]:
                self.refuse(made, "stand " + line, error, **fields)

    def test_the_first_of_several_refusals(self):
        made = desk(STAND)
        self.refuse(made, "stand 15 best 99 ; A 0 1 0 5", NoRule, word="best")
        self.refuse(made, "stand 15 first 99 ; A 0 1 0 5", NoMany, many=15)
        self.refuse(made, "stand 16 first 99 ; A 0 1 0 5", NoRow, row=("A", 0, 1, 0))
        self.refuse(made, "stand 16 halves 99 ; a 1 2 0 5,6", NoPlace, at=99)
        self.refuse(made, "stand 16 halves 0 ; a 1 2 0 5,6", NotFree, start=1, size=2)

    def test_forty_blocks(self):
        line = "stand 240 first 0" + "".join(f" ; b{at} {at} 1 0 {at}" for at in range(40))
        made = desk(line)
        self.check(made, "show", line[len("stand "):])
        self.refuse(made, "take c 1", TooMany, many=40)


class TakeTest(DeskTest):
    def test_take_and_look(self):
        for word, told in [
            ("first", "7 | 0+2"), ("tightest", "13 | 0+2"), ("next", "13 | -"),
        ]:
            mark = 12 if word == "next" else 0
            made = desk(f"stand 16 {word} {mark} ; a 2 5 0 1,1,1,1,1 ; b 11 2 0 1,1")
            self.check(made, "look 3", told)
            self.check(made, "take c 3", told)
            self.check(made, "values c", "0,0,0")
        made = desk("memory 16 halves", "take a 3", "take b 1")
        self.check(made, "look 3", "8 | 5+1 6+2")
        self.check(made, "take c 5", "8 | 5+1 6+2")
        self.check(made, "take d 2", "6 | 5+1")
        self.check(made, "take e 1", "5 | -")

    def test_take_refused(self):
        for word in WORDS:
            made = desk(f"memory 16 {word}", "take a 8")
            for name in ["A", "7", "a_", "abcdefghi", ";", "\n"]:
                self.refuse(made, f"take {name} 1", NoName, name=name)
                self.refuse(made, f"take {name} 0", NoName, name=name)
                self.refuse(made, f"fit {name} -1", NoName, name=name)
            self.refuse(made, "take a 1", Twice, name="a")
            self.refuse(made, "take a 0", Twice, name="a")
            self.refuse(made, "fit a 99", Twice, name="a")
            for size in [0, -1, -MOST]:
                self.refuse(made, f"take b {size}", NoSize, size=size)
                self.refuse(made, f"fit b {size}", NoSize, size=size)
                self.refuse(made, f"look {size}", NoSize, size=size)
            for size in [9, 16, 17, 240, 241, MOST]:
                self.refuse(made, f"take b {size}", NoHole, size=size, largest=8)
                self.refuse(made, f"look {size}", NoHole, size=size, largest=8)
            self.check(made, "take b 8", "8 | -")
            self.refuse(made, "take c 1", NoHole, size=1, largest=0)

    def test_forty_blocks(self):
        for word in WORDS:
            made = desk(f"memory 64 {word}")
            for at in range(40):
                self.check(made, f"{'take' if at % 2 else 'fit'} b{at} 1", f"{at} | -")
            for first in ["take", "fit"]:
                self.refuse(made, f"{first} c 1", TooMany, many=40)
                self.refuse(made, f"{first} c 999", TooMany, many=40)
                self.refuse(made, f"{first} c 0", NoSize, size=0)
                self.refuse(made, f"{first} b0 0", Twice, name="b0")
            self.check(made, "look 1", "40 | -")

    def test_fit(self):
        made = desk(STAND)
        self.check(made, "fit z 2", "0 | -")
        self.check(made, "fit y 4", "10 | c>14")
        self.check(made, "blocks", "z:0+2 a:2+3 b:7+2 p:9+1!2 y:10+4 c:14+2")
        self.check(made, "values c", "40,41")
        self.refuse(made, "fit x 3", NoRoom, size=3, stretches=[(0, 9, 2), (10, 16, 0)])
        made = desk("stand 16 next 9 ; a 3 2 0 1,2 ; b 6 2 0 3,4 ; c 9 2 0 5,6 ; p 13 3 1 7,8,9")
        self.check(made, "fit z 7", "0 | c>11 b>9 a>7")
        self.check(made, "show", "16 next 7 ; z 0 7 0 0,0,0,0,0,0,0 ; a 7 2 0 1,2 ; b 9 2 0 3,4 ; c 11 2 0 5,6"
                                 " ; p 13 3 1 7,8,9")

    def test_fit_by_halves(self):
        made = desk("memory 16 halves", "take a 3", "take b 3", "take c 3", "take d 3", "give a", "give c")
        self.refuse(made, "fit z 5", NoHole, size=5, largest=4)
        self.check(made, "fit z 3", "0 | -")
        self.check(made, "fit y 1", "8 | -")


class BlockTest(DeskTest):
    def test_give_pin_unpin_pins(self):
        made = desk(STAND)
        self.check(made, "give a", "ok")
        self.check(made, "pins b", "0")
        self.check(made, "pin b", "1")
        self.check(made, "pin b", "2")
        self.check(made, "unpin b", "1")
        self.check(made, "pins b", "1")
        self.refuse(made, "give b", Pinned, name="b", pins=1)
        self.refuse(made, "give p", Pinned, name="p", pins=2)
        self.check(made, "unpin b", "0")
        self.refuse(made, "unpin b", NotPinned, name="b")
        self.check(made, "give b", "ok")
        self.check(made, "show", "16 first 0 ; p 9 1 2 30 ; c 12 2 0 40,41")

    def test_read_write_cell_values(self):
        made = desk(STAND)
        self.check(made, "read a 0", "10")
        self.check(made, "read c 1", "41")
        self.check(made, "write a 2 -7", "ok")
        self.check(made, "read a 2", "-7")
        self.check(made, f"write a 1 {MOST}", "ok")
        self.check(made, "values a", f"10,{MOST},-7")
        self.check(made, "values p", "30")
        self.check(made, "cell a 0", "2")
        self.check(made, "cell c 1", "13")

    def test_no_block(self):
        made = desk(STAND)
        for name in ["z", "A", "7", ";", "a\n", "aa"]:
            for line in [f"give {name}", f"pin {name}", f"unpin {name}", f"pins {name}", f"read {name} 0",
                         f"read {name} -1", f"write {name} 99 0", f"cell {name} 99", f"values {name}"]:
                self.refuse(made, line, NoBlock, name=name)

    def test_no_place(self):
        made = desk(STAND)
        for at in [3, -1, 16, MOST, -MOST]:
            for line in [f"read a {at}", f"write a {at} 0", f"cell a {at}"]:
                self.refuse(made, line, NoPlace, at=at)


class SlideTest(DeskTest):
    def test_plan_and_room(self):
        made = desk(STAND)
        for first in ["plan", "room"]:
            self.check(made, f"{first} 2", "price 0 | - | 0+2")
            self.check(made, f"{first} 5", "stuck 0..9:4 10..16:4")
            self.check(made, f"{first} {MOST}", "stuck 0..9:4 10..16:4")
            self.check(made, "show", STAND[len("stand "):])
        self.check(made, "plan 4", "price 2 | c>14 | 10+4")
        self.check(made, "show", STAND[len("stand "):])
        self.check(made, "room 4", "price 2 | c>14 | 10+4")
        self.check(made, "blocks", "a:2+3 b:7+2 p:9+1!2 c:14+2")
        self.check(made, "values c", "40,41")
        self.check(desk("memory 16"), "plan 17", "stuck 0..16:16")
        for size in [0, -4]:
            self.refuse(made, f"plan {size}", NoSize, size=size)
            self.refuse(made, f"room {size}", NoSize, size=size)

    def test_slide(self):
        made = desk(STAND)
        self.check(made, "slide a 0", "3")
        self.check(made, "slide a 0 c 14", "2")
        self.check(made, "slide b 3 a 0", "2")
        self.check(made, "slide a 0", "0")
        self.check(made, "show", "16 first 0 ; a 0 3 0 10,11,12 ; b 3 2 0 20,21 ; p 9 1 2 30 ; c 14 2 0 40,41")

    def test_slide_refused(self):
        made = desk(STAND)
        self.refuse(made, "slide z 0", NoBlock, name="z")
        self.refuse(made, "slide a 0 z 0", NoBlock, name="z")
        self.refuse(made, "slide a 0 a 1", Twice, name="a")
        self.refuse(made, "slide a 0 p 9", Pinned, name="p", pins=2)
        self.refuse(made, "slide a 5", NoSlide, name="a", to=5)
        self.refuse(made, "slide a -1", NoSlide, name="a", to=-1)
        self.refuse(made, "slide a 0 b 2", NoSlide, name="b", to=2)

    def test_pack_and_tidy(self):
        made = desk(STAND)
        self.check(made, "pack down", "a>0 b>3 c>10")
        self.check(made, "pack down", "-")
        self.check(made, "pack up", "c>14 b>7 a>4")
        self.check(made, "show", "16 first 0 ; a 4 3 0 10,11,12 ; b 7 2 0 20,21 ; p 9 1 2 30 ; c 14 2 0 40,41")
        made = desk(STAND)
        self.check(made, "tidy", "c>14 a>4")
        self.check(made, "tidy", "-")
        for way in ["aside", "Down", "7", "down\n", ";"]:
            self.refuse(made, f"pack {way}", NoWay, way=way)

    def test_by_halves(self):
        made = desk("memory 16 halves", "take a 3")
        for line in ["plan 3", "plan 0", "room 3", "room -1", "slide a 4", "slide z 0", "pack down", "pack x", "tidy"]:
            self.refuse(made, line, Fixed, word="halves")


class TellTest(DeskTest):
    def test_blocks_holes_order(self):
        made = desk("stand 32 next 9 ; b 6 2 3 1,2 ; a 0 3 0 1,2,3 ; c 12 4 0 1,2,3,4")
        self.check(made, "blocks", "a:0+3 b:6+2!3 c:12+4")
        self.check(made, "holes", "3+3 8+4 16+16")
        self.check(made, "order", "16+16 3+3 8+4")
        made = desk("stand 32 tightest 0 ; b 7 2 3 1,2 ; a 0 3 0 1,2,3 ; c 12 4 0 1,2,3,4")
        self.check(made, "order", "9+3 3+4 16+16")
        made = desk("stand 24 halves 0 ; b 4 3 0 1,2,3")
        self.check(made, "holes", "0+4 8+8 16+8")
        self.check(made, "order", "0+4 8+8 16+8")
        made = desk("memory 16", "take a 16")
        self.check(made, "holes", "-")
        self.check(made, "order", "-")

    def test_waste(self):
        self.check(desk("memory 240 halves"), "waste", "7/15 0/1")
        self.check(desk("memory 16 halves", "take a 5"), "waste", "0/1 3/8")
        self.check(desk(STAND), "waste", "3/4 0/1")
        self.check(desk("memory 16", "take a 16"), "waste", "0/1 0/1")


class WordsOfRoom:
    """What a desk must answer, told of a room that is held beside it."""

    def __init__(self):
        self.made = None

    def stretches(self, rows):
        return " ".join(f"{start}+{size}" for start, size in rows) or "-"

    def moves(self, moves):
        return " ".join(f"{name}>{to}" for name, to in moves) or "-"

    def paper(self, paper):
        if paper.brings():
            return f"price {paper.price()} | {self.moves(paper.slides())} | {self.stretches([paper.hole()])}"
        return " ".join(["stuck"] + [f"{first}..{behind}:{free}" for first, behind, free in paper.counted()])

    def answer(self, line):
        first, *behind = line.split(" ")
        handed = [int(word) if word.lstrip("-").isdigit() else word for word in behind]
        made = self.made
        if first == "memory":
            self.made = Room(*handed)
            return "ok"
        if first in ["take", "look"]:
            order = made.order()
            if first == "take":
                start = made.take(*handed).block_start()
            else:
                start = made.look(*handed)[0]
            return f"{start} | {self.stretches(order[:[hole[0] for hole in order].index(start)])}"
        if first == "fit":
            ahead = made.blocks()
            start = made.fit(*handed).block_start()
            moves = [] if [row for row in made.blocks() if row[0] != handed[0]] == ahead else None
            if moves is None:
                moves = plan(Layout(made.many, ahead), handed[1]).slides()
            return f"{start} | {self.moves(moves)}"
        if first == "show":
            told = f"{made.many} {made.rule_word()} {made.mark()}"
            for row in made.blocks():
                told += " ; " + " ".join(str(part) for part in row) + " " + self.answer(f"values {row[0]}")
            return told
        if first == "slide":
            return str(made.slide(list(zip(handed[::2], handed[1::2]))))
        if first == "waste":
            return " ".join(f"{top}/{bottom}" for top, bottom in waste_of(made))
        return self.plain_answer(first, handed)

    def plain_answer(self, first, handed):
        made = self.made
        if first in ["plan", "room"]:
            return self.paper((made.plan_for if first == "plan" else made.make_room)(*handed))
        if first in ["pack", "tidy"]:
            return self.moves(getattr(made, first)(*handed))
        if first in ["holes", "order"]:
            return self.stretches(getattr(made, first)())
        if first == "blocks":
            rows = [(f"{name}:{start}+{size}", pins) for name, start, size, pins in made.blocks()]
            return " ".join(text + (f"!{pins}" if pins else "") for text, pins in rows) or "-"
        if first == "values":
            return ",".join(str(value) for value in made.values_of(*handed))
        if first in ["give", "write"]:
            getattr(made, first)(*handed)
            return "ok"
        return str({
            "pin": made.pin, "unpin": made.unpin, "pins": made.pin_count, "read": made.read, "cell": made.cell_of,
        }[first](*handed))


def some_line(chance):
    """A line for some deed, which may be refused; `memory` and `stand` aren't among them."""
    name = chance.choice(["a", "b", "c", "d", "e", "f", "g", "h", "A"])
    size = chance.choice([1, 1, 2, 2, 3, 3, 4, 5, 6, 8, 0, 17])
    to = chance.randrange(24)
    return chance.choice([
        f"take {name} {size}", f"take {name} {size}", f"fit {name} {size}", f"fit {name} {size}", f"fit {name} {size}",
        f"give {name}", f"give {name}", f"pin {name}", f"unpin {name}", f"unpin {name}", f"pins {name}",
        f"read {name} {size}", f"write {name} 0 {size}", f"write {name} {size} -{size + 1}", f"cell {name} 0",
        f"values {name}", "blocks", "holes", "order", f"look {size}", f"plan {size}", f"room {size}", "waste",
        f"slide {name} {to}", f"slide {name} {to}", f"slide {name} {to}", f"slide {name} {to} {chance.choice('abc')} 0",
        chance.choice(["pack down", "pack up", "pack x", "tidy"]), "show",
    ])


def answer_of(told, line):
    """The answer, or the refusal and its fields."""
    try:
        return told.answer(line)
    except RoomError as refused:
        return (type(refused), vars(refused))


class ManyLinesTest(unittest.TestCase):
    def test_answers_as_the_room_tells(self):
        answered = {}
        for word in WORDS:
            for seed in range(4):
                chance = random.Random(1050 + seed)
                made, beside = Desk(), WordsOfRoom()
                for line in [f"memory {chance.randint(16, 32)} {word}"] + [some_line(chance) for _ in range(400)]:
                    ahead = None if line.startswith("memory") else made.answer("show")
                    told = answer_of(made, line)
                    self.assertTrue(same(told, answer_of(beside, line)), (line, told))
                    if not isinstance(told, str):
                        self.assertEqual(made.answer("show"), ahead)
                    else:
                        answered[line.split(" ")[0]] = answered.get(line.split(" ")[0], 0) + 1
        self.assertEqual(len(answered), 22)
        self.assertGreater(min(answered.values()), 10, answered)

    def test_what_stands_tells_all(self):
        for word in WORDS:
            for seed in range(6):
                chance = random.Random(1060 + seed)
                made = desk(f"memory {chance.randint(16, 40)} {word}")
                for _ in range(12):
                    for _ in range(chance.randint(1, 20)):
                        answer_of(made, some_line(chance))
                    other = desk("stand " + made.answer("show"))
                    lines = [some_line(chance) for _ in range(25)]
                    for line in lines:
                        self.assertTrue(same(answer_of(other, line), answer_of(made, line)), line)
                    self.assertEqual(other.answer("show"), made.answer("show"))

    def test_what_stands_behind_stand_and_memory_too(self):
        chance = random.Random(1066)
        made = Desk()
        lines = [STAND, "memory 16 best", "stand 16 halves 0 ; a 4 3 1 1,2,3", "stand 16 first 5", "memory 20 next",
                 "stand 24 next 24 ; h 3 4 0 1,2,3,4", "memory 15", "memory 16 tightest"]
        made.answer("memory 16")
        for line in lines * 3:
            answer_of(made, line)
            for _ in range(8):
                answer_of(made, some_line(chance))
            other = desk("stand " + made.answer("show"))
            for line in [some_line(chance) for _ in range(20)] + lines:
                self.assertTrue(same(answer_of(other, line), answer_of(made, line)), line)

    def test_two_desks_by_turns(self):
        for word in WORDS:
            chance = random.Random(1067)
            one, other = desk(f"memory 24 {word}"), desk(f"memory 30 {word}")
            beside_one, beside_other = WordsOfRoom(), WordsOfRoom()
            beside_one.answer(f"memory 24 {word}")
            beside_other.answer(f"memory 30 {word}")
            for _ in range(150):
                line = some_line(chance)
                self.assertEqual(answer_of(one, line), answer_of(beside_one, line))
                line = some_line(chance)
                self.assertEqual(answer_of(other, line), answer_of(beside_other, line))
        one, other = Desk(), desk("memory 16")
        self.assertIs(type(answer_of(one, "show")), tuple)
        one.answer(STAND)
        self.assertEqual(other.answer("show"), "16 first 0")

    def test_desks_that_were_told_alike_answer_alike(self):
        for word in SLIDING_WORDS:
            chance = random.Random(1068)
            one, other = desk(f"memory 24 {word}"), desk(f"memory 24 {word}")
            for _ in range(150):
                line = some_line(chance)
                self.assertEqual(answer_of(one, line), answer_of(other, line))

    def test_the_moves_that_are_told_of_a_fitting(self):
        done = 0
        for word in SLIDING_WORDS:
            chance = random.Random(1069)
            made = desk(f"memory 16 {word}")
            for _ in range(300):
                line = f"{chance.choice(['fit', 'give'])} {chance.choice('abcdefghij')}"
                line += f" {chance.randint(1, 5)}" if line.startswith("fit") else ""
                ahead = [self.row(text) for text in made.answer("blocks").split(" ") if text != "-"]
                told = answer_of(made, line)
                if line.startswith("fit") and isinstance(told, str) and not told.endswith("| -"):
                    moves = [(text.split(">")[0], int(text.split(">")[1])) for text in told.split(" | ")[1].split(" ")]
                    behind = slid(Layout(16, ahead), moves).blocks()
                    rows = [self.row(text) for text in made.answer("blocks").split(" ")]
                    self.assertEqual(behind, [row for row in rows if row[0] != line.split(" ")[1]])
                    done += 1
        self.assertGreater(done, 5)

    def row(self, text):
        text, _, pins = text.partition("!")
        name, _, text = text.partition(":")
        start, _, size = text.partition("+")
        return (name, int(start), int(size), int(pins or 0))


if __name__ == "__main__":
    unittest.main()
