"""What several tests need: things of every kind, and a way to hold things against one another by their kinds."""


def nested(depth):
    thing = None
    for _ in range(depth):
        thing = [thing]
    return thing


def things():
    """Things of every kind that may be handed in; new ones each time."""
    return [
        None, True, False,
        0, 1, -1, 2, 15, 16, 17, 64, 240, 241,
        10 ** 29, 10 ** 30, 10 ** 59, 10 ** 60 - 1, -(10 ** 29), -(10 ** 60 - 1),
        "", " ", "\n", "a", "A", "box", "0", "1", "16", "first", "tightest", "next", "halves", "cells 16", "a b",
        [], [0], [None], [1, 2], [(0, 16)], [("a", 0, 1, 0)], [True], nested(10),
        (), (0,), (0, 1), (0, 1, 2), ("a", 0, 1, 0), ("a", 0, 1, 0, 0), (0, []), ([], {}), (True, False),
        {}, {"a": 1}, {0: []}, {(0, 1): {"b": [None]}},
    ]


def whole_numbers():
    return [thing for thing in things() if type(thing) is int]


def not_whole():
    return [thing for thing in things() if type(thing) is not int]


def same(one, other):
    """Whether two things are equal and of the same kinds throughout: 1 and True are not."""
    if type(one) is not type(other):
        return False
    if isinstance(one, (list, tuple)):
        return len(one) == len(other) and all(same(a, b) for a, b in zip(one, other))
    if isinstance(one, dict):
        return same(list(one.items()), list(other.items()))
    return one == other


def refusal(error, call, *handed):
    """The refusal of just this class with which the call is refused."""
    try:
        answer = call(*handed)
    except error as told:
        if type(told) is not error:
            raise AssertionError(f"refused with {type(told).__name__}, not {error.__name__}")
        return told
    raise AssertionError(f"not refused with {error.__name__}, but answered {answer!r}")
