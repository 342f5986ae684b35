"""[96]: whether a thing is what is told of a rule that goes through asks."""

import copy
import random
import unittest

from slideroom.errors import NoAsks, NoMany, NoRule
from slideroom.races import trail
from slideroom.trails import is_trail
from memories import WORDS
from someasks import Way, some_asks
from things import not_whole, refusal, same, things

ASKS = [
    ("take", "a", 3), ("take", "b", 2), ("take", "c", 4), ("give", "b"), ("take", "d", 1), ("take", "e", 6),
    ("take", "f", 8), ("give", "f"), ("give", "a"), ("take", "a", 2), ("take", "b", 5),
]


def put_at(row, at, thing):
    """The list or tuple with another thing in one place."""
    return type(row)(list(row[:at]) + [thing] + list(row[at + 1:]))


def others_beside(thing):
    """Things that differ from a number, text, list or tuple in just one place, whatever the place."""
    if type(thing) is int:
        yield from [thing + 1, thing - 1, str(thing), None, [thing], (thing,), {}]
        if thing in (0, 1):
            yield bool(thing)
    elif isinstance(thing, str):
        yield from ["", thing + " ", thing.upper(), None, [thing], 0]
        yield from [word for word in ["at", "none", "back", "past"] if word != thing]
    else:
        yield from [tuple(thing) if isinstance(thing, list) else list(thing), None, {}, thing + type(thing)([0])]
        yield thing + type(thing)([(0, 1)])
        for at, part in enumerate(thing):
            yield thing[:at] + thing[at + 1:]
            if at > 0 and not same(thing[at - 1], part):
                yield put_at(put_at(thing, at, thing[at - 1]), at - 1, part)
            for other in others_beside(part):
                yield put_at(thing, at, other)


class IsTrailTest(unittest.TestCase):
    def check(self, word, many, asks, told, truth):
        before = copy.deepcopy(told)
        self.assertIs(is_trail(word, many, asks, told), truth, told)
        self.assertTrue(same(told, before))

    def test_what_is_told(self):
        chance = random.Random(96)
        for word in WORDS:
            self.check(word, 16, ASKS, trail(word, 16, ASKS), True)
            for _ in range(12):
                many = chance.randint(16, 240)
                asks = some_asks(chance, chance.randint(0, 120), [1, 2, 5, 9, 40])
                way = Way(word, many)
                self.check(word, many, asks, [way.told(ask) for ask in asks], True)

    def test_others_beside_it(self):
        for word in WORDS:
            told = trail(word, 16, ASKS)
            others = list(others_beside(told))
            self.assertGreater(len(others), 300)
            for other in others:
                self.check(word, 16, ASKS, other, False)

    def test_by_hand(self):
        asks = [("take", "a", 3), ("take", "b", 4), ("give", "a"), ("take", "c", 4), ("take", "d", 12)]
        told = [("at", 0, []), ("at", 3, []), ("back", 0, []), ("at", 7, [(0, 3)]), ("none", 5, [(0, 3), (11, 5)])]
        self.check("first", 16, asks, told, True)
        self.check("tightest", 16, asks, told, True)
        self.check("halves", 16, asks, told, False)
        for passed in [[], [(0, 3)], [(11, 5)], [(11, 5), (0, 3)], [(0, 3), (11, 5), (0, 3)], ((0, 3), (11, 5))]:
            self.check("first", 16, asks, told[:4] + [("none", 5, passed)], False)
        self.check("next", 16, asks, told, False)
        self.check("next", 16, asks, told[:3] + [("at", 7, []), ("none", 5, [(11, 5), (0, 3)])], True)

    def test_truths_are_no_numbers(self):
        asks = [("take", "a", 1), ("take", "b", 1), ("give", "a"), ("take", "c", 2), ("take", "d", 14)]
        told = [("at", 0, []), ("at", 1, []), ("back", 0, []), ("at", 2, [(0, 1)]), ("none", 12, [(0, 1), (4, 12)])]
        self.check("first", 16, asks, told, True)
        for at, other in [
            (0, ("at", False, [])), (1, ("at", True, [])), (2, ("back", False, [])), (3, ("at", 2, [(False, 1)])),
            (3, ("at", 2, [(0, True)])), (4, ("none", 12, [(0, True), (4, 12)])),
        ]:
            self.check("first", 16, asks, put_at(told, at, other), False)

    def test_no_asks(self):
        for word in WORDS:
            self.check(word, 16, [], [], True)
            for thing in things():
                self.check(word, 16, [], thing, isinstance(thing, list) and thing == [])

    def test_things_of_every_kind(self):
        for word in WORDS:
            told = trail(word, 16, ASKS)
            for thing in things():
                self.check(word, 16, ASKS, thing, False)
                self.check(word, 16, ASKS, told + [thing], False)
                self.check(word, 16, ASKS, told[:-1] + [thing], False)
                self.check(word, 16, ASKS, [thing] + told, False)

    def test_refused_as_a_trail(self):
        for told in [None, [], trail("first", 16, ASKS)]:
            for thing in things():
                if not (isinstance(thing, str) and thing in WORDS):
                    self.assertIs(refusal(NoRule, is_trail, thing, 15, None, told).word, thing)
            for thing in not_whole() + [15, 241]:
                self.assertIs(refusal(NoMany, is_trail, "next", thing, None, told).many, thing)
            for asks, at in [(None, -1), ((), -1), ([5], 0), (ASKS + [("give", "x")], 11), ([1] * 121, 121)]:
                self.assertTrue(same(refusal(NoAsks, is_trail, "halves", 16, asks, told).at, at))


if __name__ == "__main__":
    unittest.main()
