"""Races: how the rules go through a row of asks, and how they stand beside one another behind it."""

from slideroom.asks import need_asks
from slideroom.errors import NoBlock, NoHole, NoMany
from slideroom.memory import Memory
from slideroom.waste import added, fraction, outer_waste, waste_of
from slideroom.words import is_many

RULE_WORDS = ("first", "tightest", "next", "halves")


def how_taken(memory, name, size):
    """Take a block, if a hole is large enough; how it went."""
    try:
        found = memory.look(size)
    except NoHole as refused:
        return ("none", refused.largest, memory.order())
    memory.take(name, size)
    return ("at", found[0], found[1])


def how_given(memory, name):
    """Give a block back, if there is one of this name; how it went."""
    try:
        start = memory.handle(name).block_start()
    except NoBlock:
        return ("past", 0, [])
    memory.give(name)
    return ("back", start, [])


def how_it_went(memory, ask):
    """Do what one ask asks; how it went."""
    if ask[0] == "take":
        return how_taken(memory, ask[1], ask[2])
    return how_given(memory, ask[1])


def trail(word, many, asks):
    """How the rule of a word goes through a row of asks, one tuple for each of them."""
    # Made first, as the word and the number of cells are refused ahead of the asks.
    memory = Memory(many, word)
    return [how_it_went(memory, ask) for ask in need_asks(asks)]


def mean_of(total, many):
    """The mean of so many fractions that are worth a total, nought where there are none."""
    if many == 0:
        return (0, 1)
    return fraction(total[0], total[1] * many)


def how_raced(word, many, asks):
    """How the rule of a word stands behind a row of asks: the tuple (word, refused, torn, outer, inner, mean)."""
    memory = Memory(many, word)
    refused = []
    torn = []
    total = (0, 1)
    for at, ask in enumerate(asks):
        if how_it_went(memory, ask)[0] == "none":
            refused.append(at)
            # The free cells would have been enough, were they not torn apart.
            if memory.free_cells() >= ask[2]:
                torn.append(at)
        total = added(total, outer_waste(memory.holes()))
    waste = waste_of(memory)
    return (word, refused, torn, waste[0], waste[1], mean_of(total, len(asks)))


def race(many, asks):
    """How the four rules stand behind one row of asks, in the order of RULE_WORDS."""
    if not is_many(many):
        raise NoMany(many)
    row = need_asks(asks)
    return [how_raced(word, many, row) for word in RULE_WORDS]


def fewest(told):
    """The words of those tuples of races that have the fewest refused, in the order of the tuples."""
    least = min([len(row[1]) for row in told], default=0)
    return [row[0] for row in told if len(row[1]) == least]
