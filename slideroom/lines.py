"""Lines: what a desk is told, read as tuples and written again; and what it answers with."""

from slideroom.errors import NoLine
from slideroom.words import read_figures

# What stands behind the first word; N is a number, and anything else is a word.
SHAPES = {
    "show": (), "take": ("name", "N"), "fit": ("name", "N"), "give": ("name",), "pin": ("name",), "unpin": ("name",),
    "pins": ("name",), "read": ("name", "N"), "write": ("name", "N", "N"), "cell": ("name", "N"),
    "values": ("name",), "blocks": (), "holes": (), "order": (), "look": ("N",), "plan": ("N",), "room": ("N",),
    "waste": (), "pack": ("way",), "tidy": (),
}
MEMORY_SHAPE = ("N", "word")
SLIDE_SHAPE = ("name", "N")
STAND_SHAPE = ("N", "word", "N")
BLOCK_SHAPE = ("name", "N", "N", "N")
BLOCK_WORDS = 6


def read_number(word):
    """The whole number that a thing writes, None where it writes none."""
    if not isinstance(word, str):
        return None
    if not word.startswith("-"):
        return read_figures(word)
    number = read_figures(word[1:])
    # Nought has no sign ahead.
    if number is None or number == 0:
        return None
    return -number


def read_shape(shape, words):
    """The list of what words tell that stand as a shape says, None where they don't."""
    if len(words) != len(shape):
        return None
    told = [read_number(word) if kind == "N" else word for kind, word in zip(shape, words)]
    return None if None in told else told


def read_memory(words):
    """What the words behind `memory` tell, None where they are not written so."""
    if len(words) == 1:
        return read_shape(MEMORY_SHAPE, words + ["first"])
    return read_shape(MEMORY_SHAPE, words)


def read_slide(words):
    """What the words behind `slide` tell, None where they are not written so."""
    moves = []
    for at in range(0, len(words), 2):
        move = read_shape(SLIDE_SHAPE, words[at:at + 2])
        if move is None:
            return None
        moves.append(tuple(move))
    return None if moves == [] else [moves]


def read_values(word, size):
    """The values that a word writes, None where they are not written so or not as many as the size."""
    told = [read_number(part) for part in word.split(",")]
    return None if len(told) != size or None in told else told


def read_block(words):
    """The tuple of a block and the list of its values, None where the words are not written so."""
    if len(words) != BLOCK_WORDS or words[0] != ";":
        return None
    row = read_shape(BLOCK_SHAPE, words[1:5])
    if row is None:
        return None
    values = read_values(words[5], row[2])
    return None if values is None else (tuple(row), values)


def read_stand(words):
    """What the words behind `stand` tell, None where they are not written so."""
    told = read_shape(STAND_SHAPE, words[:3])
    if told is None:
        return None
    rows = []
    values = []
    for at in range(3, len(words), BLOCK_WORDS):
        block = read_block(words[at:at + BLOCK_WORDS])
        if block is None:
            return None
        rows.append(block[0])
        values.append(block[1])
    return told + [rows, values]


def read_behind(first, words):
    """The list of what the words behind a first word tell, None where they are not written so."""
    if first == "memory":
        return read_memory(words)
    if first == "slide":
        return read_slide(words)
    if first == "stand":
        return read_stand(words)
    return read_shape(SHAPES[first], words) if first in SHAPES else None


def read_line(line):
    """The tuple of a line's first word and what stands behind it."""
    if not isinstance(line, str):
        raise NoLine(line)
    words = line.split(" ")
    # An empty word is a blank too much.
    told = None if "" in words else read_behind(words[0], words[1:])
    if told is None:
        raise NoLine(line)
    return tuple([words[0]] + told)


def write_values(values):
    """Values, with a comma between each two."""
    return ",".join([str(value) for value in values])


def write_standing(many, word, mark, rows, values):
    """What stands, without the word `stand`."""
    told = [f"{many} {word} {mark}"]
    for row, cells in zip(rows, values):
        block = " ".join([str(part) for part in row])
        written = write_values(cells)
        told.append(f"{block} {written}")
    return " ; ".join(told)


def write_line(parts):
    """The line that is told as a tuple."""
    if parts[0] == "stand":
        standing = write_standing(parts[1], parts[2], parts[3], parts[4], parts[5])
        return f"stand {standing}"
    words = [parts[0]]
    if parts[0] == "slide":
        for name, to in parts[1]:
            words.extend([name, str(to)])
    else:
        words.extend([str(part) for part in parts[1:]])
    return " ".join(words)


def write_row(texts):
    """Texts with a blank between each two, and a dash where there are none."""
    return " ".join(texts) if texts != [] else "-"


def write_stretch(start, size):
    """A stretch as a word."""
    return f"{start}+{size}"


def write_stretches(rows):
    """Stretches as a text."""
    return write_row([write_stretch(row[0], row[1]) for row in rows])


def write_moves(moves):
    """Moves as a text."""
    return write_row([f"{name}>{to}" for name, to in moves])


def write_block(name, start, size, pins):
    """A block as a word."""
    return f"{name}:{start}+{size}" if pins == 0 else f"{name}:{start}+{size}!{pins}"


def write_blocks(rows):
    """Blocks as a text."""
    return write_row([write_block(name, start, size, pins) for name, start, size, pins in rows])
