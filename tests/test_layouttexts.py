"""[15], [16]: layouts as texts."""

import itertools
import unittest

from slideroom.errors import NoMany, NoRow, NoText, Outside, Overlap, TooMany, Twice
from slideroom.layouts import Layout
from slideroom.layouttexts import read_layout, write_layout
from things import refusal, same, things

EXAMPLE = "cells 64\nbox at 0 size 12\na7 at 20 size 3 pins 2"
EXAMPLE_ROWS = [("box", 0, 12, 0), ("a7", 20, 3, 2)]
THIRTY = "1" + "0" * 29


class WrittenTest(unittest.TestCase):
    def test_the_example(self):
        self.assertEqual(write_layout(Layout(64, EXAMPLE_ROWS)), EXAMPLE)

    def test_without_blocks(self):
        self.assertEqual(write_layout(Layout(16, [])), "cells 16")
        self.assertEqual(write_layout(Layout(240, [])), "cells 240")

    def test_by_rising_starts(self):
        rows = [("c", 0, 1, 0), ("a", 1, 2, 1), ("b", 9, 100, 1000)]
        for handed in itertools.permutations(rows):
            told = write_layout(Layout(200, list(handed)))
            self.assertEqual(told, "cells 200\nc at 0 size 1\na at 1 size 2 pins 1\nb at 9 size 100 pins 1000")

    def test_what_is_handed_in_stays(self):
        layout = Layout(64, EXAMPLE_ROWS)
        write_layout(layout)
        self.assertEqual((layout.many, layout.blocks()), (64, EXAMPLE_ROWS))


class ReadTest(unittest.TestCase):
    def check(self, text, many, rows):
        layout = read_layout(text)
        self.assertIsInstance(layout, Layout)
        self.assertTrue(same(layout.many, many))
        self.assertTrue(same(layout.blocks(), rows), layout.blocks())

    def test_the_example(self):
        self.check(EXAMPLE, 64, EXAMPLE_ROWS)

    def test_without_blocks(self):
        self.check("cells 16", 16, [])

    def test_blocks_in_any_order(self):
        lines = EXAMPLE.split("\n") + ["z at 63 size 1", "y at 30 size 2 pins 1000"]
        for order in itertools.permutations(lines[1:]):
            rows = EXAMPLE_ROWS + [("y", 30, 2, 1000), ("z", 63, 1, 0)]
            self.check("\n".join(lines[:1] + list(order)), 64, rows)

    def test_words_as_names(self):
        text = "cells 16\ncells at 0 size 1\nat at 1 size 1\nsize at 2 size 1\npins at 3 size 1 pins 3"
        self.check(text, 16, [("cells", 0, 1, 0), ("at", 1, 1, 0), ("size", 2, 1, 0), ("pins", 3, 1, 3)])

    def test_what_is_written_is_read_again(self):
        for rows in [[], EXAMPLE_ROWS, [(f"n{at}", at * 6, at % 6 + 1, at % 3) for at in range(40)]]:
            layout = Layout(240, rows)
            self.check(write_layout(layout), 240, rows)
            self.assertEqual(write_layout(read_layout(write_layout(layout))), write_layout(layout))


class RefusedTest(unittest.TestCase):
    def check(self, text, row):
        told = refusal(NoText, read_layout, text)
        self.assertTrue(same(told.row, row), (text, told.row))

    def test_no_text(self):
        for thing in things() + [["cells 16"], ("cells 16",), {"cells": 16}]:
            if not isinstance(thing, str):
                self.check(thing, 0)

    def test_the_first_row(self):
        for line in [
            "", " ", "cells", "cells ", " cells 16", "cells 16 ", "cells  16", "cells 16 16", "16", "16 cells",
            "cell 16", "Cells 16", "CELLS 16", "cells16", "cells 016", "cells 00", "cells +16", "cells -16",
            "cells 1_6", "cells 16.", "cells 0x10", "cells x", "cells 1" + THIRTY, "cells\t16", "a at 0 size 1",
            "cells \u0661\u0666", "cells \u00b2", "cells 1 6",
        ]:
            self.check(line, 0)
            self.check(line + "\na at 0 size 1", 0)
            self.check(line + "\nnothing", 0)

    def test_an_empty_text_and_empty_rows(self):
        self.check("", 0)
        self.check("\n", 0)
        self.check("\ncells 16", 0)
        self.check("cells 16\n", 1)
        self.check("cells 16\n\na at 0 size 1", 1)
        self.check("cells 16\na at 0 size 1\n", 2)

    def test_a_row_of_a_block(self):
        for line in [
            "a", "a at", "a at 0", "a at 0 size", "a at 0 size 1 pins", "a at 0 size 1 2", "a at 0 size 1 pins 1 1",
            "a at 0 size 1 pins 1 pins 1", "a 0 1", "at 0 size 1", "a at size 1", "a at 0 1", "a at 0 0 size 1",
            " a at 0 size 1", "a at 0 size 1 ", "a  at 0 size 1", "a at  0 size 1", "a at 0  size 1",
            "a at 0 size  1", "a at 0 size 1  pins 1", "a at 0 size 1 pins  1", "a at 0 size 1 pins 1 ",
            "a\tat 0 size 1", "a At 0 size 1", "a at 0 Size 1", "a at 0 size 1 Pins 1", "a to 0 size 1",
            "a at 0 sizes 1", "a at 0 size 1 pin 1", "a size 1 at 0", "a at 0 pins 1 size 1",
            "A at 0 size 1", "7a at 0 size 1", "abcdefghi at 0 size 1", "a-b at 0 size 1", "a_ at 0 size 1",
            "a at 00 size 1", "a at 01 size 1", "a at 0 size 01", "a at 0 size 00", "a at 0 size 1 pins 01",
            "a at 0 size 1 pins 0", "a at 0 size 1 pins 00", "a at -1 size 1", "a at 0 size -1", "a at -0 size 1",
            "a at +0 size 1", "a at 0 size +1", "a at 0 size 1 pins -1", "a at x size 1", "a at 0 size x",
            "a at 0 size 1 pins x", "a at 1_0 size 1", "a at 0 size 1.", "a at 0 size 1 pins 1_0",
            "a at 1" + THIRTY + " size 1", "a at 0 size 1" + THIRTY, "a at 0 size 1 pins 1" + THIRTY,
            "a at 0 size \u0661", "a at \u00b2 size 1", "cells 16",
        ]:
            self.check("cells 16\n" + line, 1)
            self.check("cells 16\nb at 9 size 1\n" + line, 2)
            self.check("cells 16\n" + line + "\nb at 9 size 1", 1)
            self.check("cells 16\n" + line + "\n" + line, 1)

    def test_every_row_is_read_ahead_of_the_layout(self):
        for text in ["cells 15\nnothing", "cells 16\na at 0 size 99\n", "cells 16\na at 0 size 1\na at 0 size 1\n"]:
            self.check(text, text.count("\n"))
        self.check("cells 240" + "\na at 0 size 1" * 50 + "\nno", 51)


class RefusedAsALayoutTest(unittest.TestCase):
    def test_the_number_of_cells(self):
        for many in [0, 1, 15, 241, 10 ** 29]:
            self.assertTrue(same(refusal(NoMany, read_layout, f"cells {many}").many, many))

    def test_numbers_of_thirty_figures(self):
        self.assertEqual(refusal(NoMany, read_layout, "cells " + "9" * 30).many, 10 ** 30 - 1)
        self.assertEqual(refusal(Outside, read_layout, "cells 16\na at " + "9" * 30 + " size 1").name, "a")
        self.assertEqual(refusal(Outside, read_layout, "cells 16\na at 0 size " + "9" * 30).name, "a")
        layout = read_layout("cells 16\na at 0 size 1 pins " + "9" * 30)
        self.assertEqual(layout.block("a"), ("a", 0, 1, 10 ** 30 - 1))

    def test_a_size_of_nought(self):
        self.assertEqual(refusal(NoRow, read_layout, "cells 16\na at 0 size 0").row, ("a", 0, 0, 0))
        told = refusal(NoRow, read_layout, "cells 16\na at 3 size 0 pins 2")
        self.assertTrue(same(told.row, ("a", 3, 0, 2)))

    def test_blocks(self):
        self.assertEqual(refusal(Outside, read_layout, "cells 16\na at 15 size 2").name, "a")
        self.assertEqual(refusal(Twice, read_layout, "cells 16\na at 0 size 1\na at 1 size 1").name, "a")
        told = refusal(Overlap, read_layout, "cells 16\na at 0 size 2\nb at 1 size 1")
        self.assertEqual((told.name, told.other), ("b", "a"))
        told = refusal(Overlap, read_layout, "cells 16\nb at 8 size 2\na at 0 size 2\nc at 1 size 8")
        self.assertEqual((told.name, told.other), ("c", "b"))

    def test_forty_one_blocks(self):
        rows = [f"\nb{at} at {at} size 1" for at in range(41)]
        self.assertEqual(len(read_layout("cells 240" + "".join(rows[:40])).blocks()), 40)
        self.assertEqual(refusal(TooMany, read_layout, "cells 240" + "".join(rows)).many, 41)


if __name__ == "__main__":
    unittest.main()
