"""[101] to [104]: lines read and written, and stretches, moves and blocks as texts."""

import copy
import random
import unittest

from slideroom.errors import NoLine
from slideroom.lines import read_line, read_number, write_blocks, write_line, write_moves, write_stretches
from things import refusal, same, things

MOST = 10 ** 30 - 1
# Lines of each first word, and what they are told as; a line is written as it stands here.
LINES = [
    ("memory 16 first", ("memory", 16, "first")),
    ("memory 240 halves", ("memory", 240, "halves")),
    ("memory -1 x", ("memory", -1, "x")),
    ("stand 16 first 0", ("stand", 16, "first", 0, [], [])),
    ("stand 16 next 7 ; a 0 3 1 5,0,-12 ; box 6 1 0 0",
     ("stand", 16, "next", 7, [("a", 0, 3, 1), ("box", 6, 1, 0)], [[5, 0, -12], [0]])),
    ("stand 0 ; -4 ; ; -1 1 -2 9", ("stand", 0, ";", -4, [(";", -1, 1, -2)], [[9]])),
    (f"stand 300 x {MOST} ; B! {MOST} 2 {MOST} {MOST},-{MOST}",
     ("stand", 300, "x", MOST, [("B!", MOST, 2, MOST)], [[MOST, -MOST]])),
    ("show", ("show",)),
    ("take a 3", ("take", "a", 3)),
    ("fit box 0", ("fit", "box", 0)),
    ("give a", ("give", "a")),
    ("pin a7", ("pin", "a7")),
    ("unpin b", ("unpin", "b")),
    ("pins x", ("pins", "x")),
    ("read a 2", ("read", "a", 2)),
    ("write a 2 -40", ("write", "a", 2, -40)),
    (f"write a -{MOST} {MOST}", ("write", "a", -MOST, MOST)),
    ("cell a 0", ("cell", "a", 0)),
    ("values a", ("values", "a")),
    ("blocks", ("blocks",)),
    ("holes", ("holes",)),
    ("order", ("order",)),
    ("look 5", ("look", 5)),
    ("plan 241", ("plan", 241)),
    ("room -7", ("room", -7)),
    ("waste", ("waste",)),
    ("slide a 0", ("slide", [("a", 0)])),
    ("slide a 0 b 12 a -3", ("slide", [("a", 0), ("b", 12), ("a", -3)])),
    ("pack down", ("pack", "down")),
    ("pack aside", ("pack", "aside")),
    ("tidy", ("tidy",)),
]
FIRST_WORDS = (
    "memory stand show take fit give pin unpin pins read write cell values blocks holes order look plan room waste"
    " slide pack tidy"
).split()
SIGNS = [sign for sign in map(chr, range(33, 127)) if sign != "%"] + ["\n"]
NO_NUMBERS = ["-0", "00", "07", "-07", "+1", "1.", "1,2", "--1", "-", "1-", "x", "1\n", "\n1", "1_0", "0x1", "1e3",
              "-\n1", "9" * 31, "-" + "9" * 31, "1" + "0" * 30, "0" * 30, ";", "N"]


class ReadNumberTest(unittest.TestCase):
    def test_numbers(self):
        for number in [0, 1, 9, 10, 16, 101, 240, 10 ** 29, MOST]:
            self.assertTrue(same(read_number(str(number)), number))
            if number:
                self.assertTrue(same(read_number("-" + str(number)), -number))

    def test_thirty_and_thirty_one_figures(self):
        for figure in "123456789":
            self.assertTrue(same(read_number(figure * 30), int(figure * 30)))
            self.assertTrue(same(read_number("-" + figure * 30), -int(figure * 30)))
            self.assertIsNone(read_number(figure * 31))
            self.assertIsNone(read_number("-" + figure * 31))
        self.assertIsNone(read_number("7" * 10000))
        self.assertIsNone(read_number("-" + "7" * 9999))

    def test_what_is_not_written_so(self):
        for word in NO_NUMBERS + ["", " ", "\n", " 1", "1 ", "- 1", "1 2", "0 ", "-1 ", "- ", "one", "True", "None"]:
            self.assertIsNone(read_number(word), word)
        for sign in SIGNS + [" "]:
            if sign not in "0123456789":
                for word in [sign, sign + sign, "1" + sign, "-1" + sign, "1" + sign + "2"]:
                    self.assertIsNone(read_number(word), word)
                if sign != "-":
                    self.assertIsNone(read_number(sign + "1"), sign)

    def test_things_of_every_kind(self):
        for thing in things():
            told = {"0": 0, "1": 1, "16": 16}.get(thing) if isinstance(thing, str) else None
            self.assertTrue(same(read_number(thing), told), thing)


class ReadLineTest(unittest.TestCase):
    def check(self, line, parts):
        self.assertTrue(same(read_line(line), parts), (line, read_line(line)))

    def refuse(self, line):
        self.assertIs(refusal(NoLine, read_line, line).line, line)

    def test_each_first_word(self):
        self.assertEqual(sorted({parts[0] for _, parts in LINES}), sorted(FIRST_WORDS))
        for line, parts in LINES:
            self.check(line, parts)

    def test_the_rules_word_left_out(self):
        self.check("memory 16", ("memory", 16, "first"))
        self.check("memory -3", ("memory", -3, "first"))
        self.refuse("memory")
        self.refuse("memory first")
        self.refuse("memory first 16")
        self.refuse("memory 16 first 0")

    def test_things_that_are_no_texts(self):
        for thing in things():
            self.refuse(thing)
        for thing in [["show"], ("show",), {"show": 1}, ("take", "a", 3)]:
            self.refuse(thing)

    def test_blanks(self):
        for line, _ in LINES:
            words = line.split(" ")
            for other in [" " + line, line + " ", "  " + line, line + "  "]:
                self.refuse(other)
            for at in range(1, len(words)):
                self.refuse(" ".join(words[:at]) + "  " + " ".join(words[at:]))
            # A word that has no sign is none, also where any word may stand.
            for at in range(len(words)):
                self.refuse(" ".join(words[:at] + [""] + words[at + 1:]))
        for line in ["", " ", "  ", "\n", " \n", "\n "]:
            self.refuse(line)

    def test_line_feeds(self):
        for line, _ in LINES:
            words = line.split(" ")
            for other in ["\n" + line, line.replace(" ", "\n", 1) if " " in line else line + "\n"]:
                self.refuse(other)
            if words[-1].isdigit() or len(words) == 1:
                self.refuse(line + "\n")
        # In a word a line feed is a sign like others.
        self.check("give a\n", ("give", "a\n"))
        self.check("take \n 3", ("take", "\n", 3))
        self.check("take a\nb 3", ("take", "a\nb", 3))
        self.refuse("take a 3\n")
        self.refuse("take a\n3")

    def test_words_left_out(self):
        for line, parts in LINES:
            words = line.split(" ")
            for at in range(len(words)):
                if (parts[0], at) != ("memory", 2):
                    self.refuse(" ".join(words[:at] + words[at + 1:]))

    def test_words_put_in(self):
        for line, parts in LINES:
            words = line.split(" ")
            for at in range(len(words) + 1):
                for word in ["x", "7", ";", "take"]:
                    other = " ".join(words[:at] + [word] + words[at:])
                    if other == "take " + line and parts[0] in ["look", "plan", "room"]:
                        self.check(other, ("take", parts[0], parts[1]))
                    else:
                        self.refuse(other)

    def test_other_first_words(self):
        for word in ["x", "Show", "SHOW", "show\n", "shows", "sho", "stand\n", "7", ";", "free", "begin", "go_on",
                     "settle", "handle", "mark", "exit", "layout"]:
            for behind in ["", " a", " 3", " a 3", " a 3 3", " a 3 b 3"]:
                self.refuse(word + behind)

    def test_any_words_that_are_no_numbers(self):
        for word in SIGNS + ["7", "-0", "00", "first", "a" * 9, "A", ";", ",", "a,b", "take", "9" * 40, "~~"]:
            self.check(f"memory 16 {word}", ("memory", 16, word))
            self.check(f"stand 16 {word} 0", ("stand", 16, word, 0, [], []))
            self.check(f"stand 16 x 0 ; {word} 0 1 0 5", ("stand", 16, "x", 0, [(word, 0, 1, 0)], [[5]]))
            self.check(f"pack {word}", ("pack", word))
            self.check(f"slide {word} 1 {word} 2", ("slide", [(word, 1), (word, 2)]))
            for first in ["give", "pin", "unpin", "pins", "values"]:
                self.check(f"{first} {word}", (first, word))
            for first in ["take", "fit", "read", "cell"]:
                self.check(f"{first} {word} 0", (first, word, 0))
            self.check(f"write {word} 0 1", ("write", word, 0, 1))

    def test_no_numbers_in_the_place_of_numbers(self):
        for word in NO_NUMBERS:
            for line in [
                f"memory {word}", f"memory {word} first", f"stand {word} first 0", f"stand 16 first {word}",
                f"take a {word}", f"fit a {word}", f"read a {word}", f"cell a {word}", f"write a {word} 1",
                f"write a 1 {word}", f"look {word}", f"plan {word}", f"room {word}", f"slide a {word}",
                f"slide a 1 b {word}", f"slide a {word} b 1", f"stand 16 first 0 ; a {word} 1 0 5",
                f"stand 16 first 0 ; a 0 {word} 0 5", f"stand 16 first 0 ; a 0 1 {word} 5",
                f"stand 16 first 0 ; a 0 1 0 {word}", f"stand 16 first 0 ; a 0 2 0 5,{word}x",
            ]:
                self.refuse(line)

    def test_numbers_of_any_size(self):
        for number in [0, -1, 1, MOST, -MOST]:
            for first in ["look", "plan", "room"]:
                self.check(f"{first} {number}", (first, number))
            self.check(f"memory {number}", ("memory", number, "first"))
            self.check(f"take a {number}", ("take", "a", number))
            self.check(f"slide a {number}", ("slide", [("a", number)]))

    def test_slide_without_moves(self):
        for line in ["slide", "slide a", "slide 1", "slide a 1 b", "slide a 1 2", "slide a b 1 2"]:
            self.refuse(line)

    def test_as_many_values_as_the_size(self):
        for size in range(1, 9):
            for many in range(1, 9):
                line = f"stand 16 first 0 ; a 0 {size} 0 " + ",".join(["7"] * many)
                if size == many:
                    self.check(line, ("stand", 16, "first", 0, [("a", 0, size, 0)], [[7] * many]))
                else:
                    self.refuse(line)
        for size in [0, -1, MOST]:
            for values in ["", "0", "-", ",", "0,0"]:
                self.refuse(f"stand 16 first 0 ; a 0 {size} 0 {values}")
        self.refuse("stand 16 first 0 ; a 0 0 0")

    def test_values(self):
        for values in [",5", "5,", "5,,5", "5;5", "5,5\n", "5,x", "-0,5", "05,5", "5,+5", ",", "5,5,5", "5", "5, 5"]:
            self.refuse(f"stand 16 first 0 ; a 0 2 0 {values}")
        self.check(f"stand 16 first 0 ; a 0 2 0 -5,{MOST}",
                   ("stand", 16, "first", 0, [("a", 0, 2, 0)], [[-5, MOST]]))

    def test_six_words_for_each_block(self):
        block = "; a 0 1 0 5"
        for behind in [
            ";", "a", "; a", "; a 0 1 0", "; a 0 1 0 5 6", ": a 0 1 0 5", "a 0 1 0 5", "; a 0 1 0 5 ;", ";; a 0 1 0 5",
            ", a 0 1 0 5", "; 0 1 0 5", "; a 0 1 0 5 a 0 1 0 5", ";a 0 1 0 5", "; a 0 1 0 ; 5",
        ]:
            self.refuse(f"stand 16 first 0 {behind}")
            self.refuse(f"stand 16 first 0 {block} {behind}")
            self.refuse(f"stand 16 first 0 {behind} {block}")
        for line in ["stand", "stand 16", "stand 16 first", "stand 16 0", f"stand {block}", f"stand 16 first {block}"]:
            self.refuse(line)

    def test_any_number_of_blocks(self):
        for many in [2, 40, 41, 100]:
            line = "stand 16 first 0" + " ; a 0 1 0 5" * many
            self.check(line, ("stand", 16, "first", 0, [("a", 0, 1, 0)] * many, [[5]] * many))

    def test_new_lists_each_time(self):
        for line, parts in LINES:
            told = read_line(line)
            for part in told:
                if isinstance(part, list):
                    part.append(0)
            self.check(line, parts)


class WriteLineTest(unittest.TestCase):
    def check(self, parts, line):
        before = copy.deepcopy(parts)
        self.assertTrue(same(write_line(parts), line), write_line(parts))
        self.assertTrue(same(parts, before))

    def test_what_is_read_is_written(self):
        for line, parts in LINES:
            self.check(parts, line)
            self.check(read_line(line), line)
            self.assertTrue(same(read_line(write_line(parts)), parts))

    def test_the_longer_one_for_memory(self):
        self.check(read_line("memory 16"), "memory 16 first")
        self.check(read_line("memory 16 halves"), "memory 16 halves")

    def test_words_of_any_signs(self):
        for word in SIGNS + ["7", "-0", ";;", "a\nb"]:
            for line in [f"give {word}", f"slide {word} 0 {word} -1", f"stand 16 {word} 0 ; {word} 0 2 0 1,-2"]:
                self.check(read_line(line), line)

    def test_some_lines(self):
        chance = random.Random(103)
        for _ in range(300):
            line = self.some_line(chance)
            self.check(read_line(line), line)

    def some_line(self, chance):
        def number():
            return str(chance.choice([-1, 1]) * chance.randrange(10 ** chance.randint(1, 30)))

        def word():
            return "".join(chance.choice(SIGNS) for _ in range(chance.randint(1, 9)))

        first = chance.choice(["slide", "stand", "memory", "write", "look"])
        if first == "slide":
            return " ".join(["slide"] + [word() + " " + number() for _ in range(chance.randint(1, 9))])
        if first == "stand":
            line = f"stand {number()} {word()} {number()}"
            for _ in range(chance.randrange(6)):
                size = chance.randint(1, 9)
                values = ",".join(number() for _ in range(size))
                line += f" ; {word()} {number()} {size} {number()} {values}"
            return line
        return {
            "memory": f"memory {number()} {word()}", "write": f"write {word()} {number()} {number()}",
            "look": f"look {number()}",
        }[first]


class WriteRowsTest(unittest.TestCase):
    def check(self, write, rows, text):
        before = copy.deepcopy(rows)
        self.assertTrue(same(write(rows), text), write(rows))
        self.assertTrue(same(rows, before))

    def test_stretches(self):
        self.check(write_stretches, [], "-")
        self.check(write_stretches, [(0, 3)], "0+3")
        self.check(write_stretches, [(0, 3), (9, 7)], "0+3 9+7")
        self.check(write_stretches, [(9, 7), (0, 3), (9, 7)], "9+7 0+3 9+7")
        self.check(write_stretches, [(at, 1) for at in range(240)], " ".join(f"{at}+1" for at in range(240)))
        self.check(write_stretches, [(MOST, 10 ** 59)], f"{MOST}+{10 ** 59}")

    def test_moves(self):
        self.check(write_moves, [], "-")
        self.check(write_moves, [("a", 0)], "a>0")
        self.check(write_moves, [("a", 0), ("box", 4)], "a>0 box>4")
        self.check(write_moves, [("box", 4), ("a", 0), ("box", 239)], "box>4 a>0 box>239")

    def test_blocks(self):
        self.check(write_blocks, [], "-")
        self.check(write_blocks, [("a", 0, 3, 2), ("box", 4, 1, 0)], "a:0+3!2 box:4+1")
        self.check(write_blocks, [("a", 0, 3, 0)], "a:0+3")
        self.check(write_blocks, [("a", 0, 3, 1)], "a:0+3!1")
        self.check(write_blocks, [("z9", 239, 1, 1000), ("a", 0, 16, 0)], "z9:239+1!1000 a:0+16")


if __name__ == "__main__":
    unittest.main()
