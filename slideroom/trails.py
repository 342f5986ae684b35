"""Whether a thing is what is told of a rule that goes through a row of asks."""

from slideroom.races import trail
from slideroom.words import has_truth


def is_trail(word, many, asks, told):
    """Whether the thing is the list that tells how the rule of a word goes through the asks."""
    # Truths are looked for by themselves, as for Python 1 and True are equal.
    return told == trail(word, many, asks) and not has_truth(told)
