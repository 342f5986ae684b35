"""Layouts written as texts, and read from them."""

from slideroom.errors import NoText
from slideroom.layouts import Layout
from slideroom.words import is_name, read_figures


def write_block(name, start, size, pins):
    """The row of a text that tells a block."""
    row = f"{name} at {start} size {size}"
    if pins == 0:
        return row
    return f"{row} pins {pins}"


def write_layout(layout):
    """The text that tells a layout."""
    many = layout.many
    rows = [f"cells {many}"]
    for name, start, size, pins in layout.blocks():
        rows.append(write_block(name, start, size, pins))
    return "\n".join(rows)


def read_cells(row):
    """The number of cells that the first row of a text tells, None where it is not written so."""
    words = row.split(" ")
    if len(words) != 2 or words[0] != "cells":
        return None
    return read_figures(words[1])


def read_pins(words):
    """The pins that the words behind a block's size tell, None where they are not written so."""
    if words == []:
        return 0
    # Pins that are 0 are left out, and so they are never written.
    if len(words) != 2 or words[0] != "pins" or words[1] == "0":
        return None
    return read_figures(words[1])


def read_block(row):
    """The tuple (name, start, size, pins) that a row of a text tells, None where it is not written so."""
    words = row.split(" ")
    if len(words) < 5 or not is_name(words[0]) or words[1] != "at" or words[3] != "size":
        return None
    start = read_figures(words[2])
    size = read_figures(words[4])
    pins = read_pins(words[5:])
    if start is None or size is None or pins is None:
        return None
    return (words[0], start, size, pins)


def read_layout(text):
    """The layout that a text tells."""
    if not isinstance(text, str):
        raise NoText(0)
    lines = text.split("\n")
    many = read_cells(lines[0])
    if many is None:
        raise NoText(0)
    rows = []
    for at in range(1, len(lines)):
        row = read_block(lines[at])
        if row is None:
            raise NoText(at)
        rows.append(row)
    return Layout(many, rows)
