"""Whether a thing is what a rule must tell of where it finds room."""

from slideroom.errors import NoRule
from slideroom.orders import by_size, by_start, found_in, from_mark
from slideroom.stretches import is_stretch
from slideroom.words import is_whole


def order_by(word, holes, mark):
    """The holes in the order in which the rule of a word looks at them."""
    if word == "first":
        return by_start(holes)
    if word == "tightest":
        return by_size(holes)
    if word == "next":
        return from_mark(holes, mark)
    raise NoRule(word)


def is_answer(told):
    """Whether the thing is a tuple of a whole number and a list of stretches."""
    if not isinstance(told, tuple) or len(told) != 2:
        return False
    if not is_whole(told[0]) or not isinstance(told[1], list):
        return False
    return all([is_stretch(hole) for hole in told[1]])


def is_found(word, holes, mark, size, told):
    """Whether the thing is what the rule of a word tells of a size, with these holes and this mark."""
    found = found_in(order_by(word, holes, mark), size)
    # The kinds are looked at by themselves, as for Python 1 and True are equal.
    return is_answer(told) and told == found
