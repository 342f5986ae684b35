"""What the things are that are handed in: whole numbers, names, values, figures."""

LETTERS = "abcdefghijklmnopqrstuvwxyz"
FIGURES = "0123456789"
NAME_SIGNS = "abcdefghijklmnopqrstuvwxyz0123456789"
MOST_SIGNS = 8
MOST_FIGURES = 30
FEWEST_CELLS = 16
MOST_CELLS = 240


def is_whole(thing):
    """Whether the thing is a whole number."""
    # For Python True and False are numbers, too.
    return isinstance(thing, int) and not isinstance(thing, bool)


def has_truth(thing):
    """Whether the thing is True or False, or has one of them in it, as deep as its lists and tuples go."""
    if isinstance(thing, (list, tuple)):
        return any([has_truth(part) for part in thing])
    return isinstance(thing, bool)


def is_from(thing, low):
    """Whether the thing is a whole number from low on."""
    return is_whole(thing) and low <= thing


def is_within(thing, low, high):
    """Whether the thing is a whole number from low to high, both within."""
    return is_whole(thing) and low <= thing <= high


def is_many(thing):
    """Whether the thing is a number of cells that a memory can have."""
    return is_within(thing, FEWEST_CELLS, MOST_CELLS)


def is_name(thing):
    """Whether the thing is a name."""
    if not isinstance(thing, str) or not 1 <= len(thing) <= MOST_SIGNS:
        return False
    return thing[0] in LETTERS and all([sign in NAME_SIGNS for sign in thing])


def is_value(thing):
    """Whether the thing is a value."""
    return is_whole(thing) and abs(thing) < 10 ** 30


def read_figures(word):
    """The whole number from 0 on that a text writes by its figures, None where it writes none."""
    # The length is looked at first: Python itself refuses to read very long numbers.
    if not 1 <= len(word) <= MOST_FIGURES:
        return None
    if not all([sign in FIGURES for sign in word]):
        return None
    if word[0] == "0" and word != "0":
        return None
    return int(word)
