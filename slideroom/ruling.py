"""Rules made by their words."""

from slideroom.errors import NoPlace, NoRule
from slideroom.halves import Halves
from slideroom.rules import First, Next, Tightest
from slideroom.words import is_within


def rule_without_mark(word, many):
    """The rule of a word other than `next`, for so many cells."""
    if word == "first":
        return First(many)
    if word == "tightest":
        return Tightest(many)
    if word == "halves":
        return Halves(many)
    raise NoRule(word)


def rule_of(word, many, mark=0):
    """The rule of a word, for so many cells and with a mark."""
    if word == "next":
        return Next(many, mark)
    # Made ahead of a look at the mark, as the word and the number of cells are refused first.
    rule = rule_without_mark(word, many)
    if not is_within(mark, 0, 0):
        raise NoPlace(mark)
    return rule
