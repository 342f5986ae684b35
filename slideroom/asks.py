"""Rows of asks: takes and gives by names, whatever rule goes through them."""

from slideroom.errors import NoAsks
from slideroom.layouts import MOST_BLOCKS
from slideroom.words import is_from, is_name

MOST_ASKS = 120


def is_take(thing):
    """Whether the thing is a tuple ("take", name, size) of the right kinds."""
    if not isinstance(thing, tuple) or len(thing) != 3:
        return False
    return thing[0] == "take" and is_name(thing[1]) and is_from(thing[2], 1)


def is_give(thing):
    """Whether the thing is a tuple ("give", name) of the right kinds."""
    return isinstance(thing, tuple) and len(thing) == 2 and thing[0] == "give" and is_name(thing[1])


def is_ask(thing, out):
    """Whether the thing is an ask while the names of a list are out."""
    if is_take(thing):
        return thing[1] not in out and len(out) < MOST_BLOCKS
    return is_give(thing) and thing[1] in out


def need_asks(asks):
    """A list of its own with the same asks; refused where the thing is no row of asks."""
    if not isinstance(asks, list):
        raise NoAsks(-1)
    if len(asks) > MOST_ASKS:
        raise NoAsks(len(asks))
    out = []
    for at, ask in enumerate(asks):
        if not is_ask(ask, out):
            raise NoAsks(at)
        if ask[0] == "take":
            out.append(ask[1])
        else:
            out.remove(ask[1])
    return list(asks)
