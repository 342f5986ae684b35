"""[95], [97], [98]: how the rules go through rows of asks, and stand beside one another."""

import copy
import random
import unittest
from fractions import Fraction

from slideroom.errors import NoAsks, NoMany, NoRule
from slideroom.races import fewest, race, trail
from memories import WORDS
from someasks import Way, some_asks
from things import not_whole, refusal, same, things

BIG = 10 ** 60 - 1
ASKS = [
    ("take", "a", 3), ("take", "b", 2), ("take", "c", 4), ("give", "b"), ("take", "d", 1), ("take", "e", 6),
    ("take", "f", 8), ("give", "f"), ("give", "a"), ("take", "a", 2), ("take", "b", 5),
]
NO_MANYS = not_whole() + [15, 241, 0, -16, BIG]
NO_WORDS = [thing for thing in things() if not (isinstance(thing, str) and thing in WORDS)] + ["First", "next ", "best"]
NO_ASKS = [(None, -1), ((), -1), ([None], 0), ([("take", "a", 1), ("take", "a", 1)], 1), ([5] * 121, 121)]


def rows_of_asks():
    chance = random.Random(95)
    for _ in range(25):
        sizes = chance.choice([[1, 2, 3], [1, 2, 3, 4, 5, 6, 7, 8], [3, 5, 9], [1, 30], [16, 17, 200, BIG]])
        yield chance.randint(16, 64), some_asks(chance, chance.randint(1, 60), sizes)
    yield 240, some_asks(chance, 120, [1, 5, 9, 20, 33])
    yield 16, some_asks(chance, 120, [1, 1, 2, 3], [f"b{at}" for at in range(60)])


class TrailTest(unittest.TestCase):
    def check(self, word, many, asks, told):
        before = copy.deepcopy(asks)
        self.assertTrue(same(trail(word, many, asks), told), trail(word, many, asks))
        self.assertTrue(same(asks, before))

    def test_by_hand_first(self):
        self.check("first", 16, ASKS, [
            ("at", 0, []), ("at", 3, []), ("at", 5, []), ("back", 3, []), ("at", 3, []), ("at", 9, [(4, 1)]),
            ("none", 1, [(4, 1), (15, 1)]), ("past", 0, []), ("back", 0, []), ("at", 0, []),
            ("none", 1, [(2, 1), (4, 1), (15, 1)]),
        ])

    def test_by_hand_tightest(self):
        self.check("tightest", 16, ASKS, [
            ("at", 0, []), ("at", 3, []), ("at", 5, []), ("back", 3, []), ("at", 3, []), ("at", 9, [(4, 1)]),
            ("none", 1, [(4, 1), (15, 1)]), ("past", 0, []), ("back", 0, []), ("at", 0, [(4, 1), (15, 1)]),
            ("none", 1, [(2, 1), (4, 1), (15, 1)]),
        ])

    def test_by_hand_next(self):
        self.check("next", 16, ASKS, [
            ("at", 0, []), ("at", 3, []), ("at", 5, []), ("back", 3, []), ("at", 9, []), ("at", 10, []),
            ("none", 2, [(3, 2)]), ("past", 0, []), ("back", 0, []), ("at", 0, []), ("none", 3, [(2, 3)]),
        ])

    def test_by_hand_halves(self):
        self.check("halves", 16, ASKS, [
            ("at", 0, []), ("at", 4, []), ("at", 8, [(6, 2)]), ("back", 4, []), ("at", 4, []),
            ("none", 4, [(5, 1), (6, 2), (12, 4)]), ("none", 4, [(5, 1), (6, 2), (12, 4)]), ("past", 0, []),
            ("back", 0, []), ("at", 6, [(5, 1)]), ("none", 4, [(5, 1), (0, 4), (12, 4)]),
        ])

    def test_no_asks(self):
        for word in WORDS:
            self.check(word, 16, [], [])

    def test_a_size_above_the_number_of_cells(self):
        for word in WORDS:
            for size in [17, 240, 241, BIG]:
                self.check(word, 16, [("take", "a", size), ("give", "a")], [("none", 16, [(0, 16)]), ("past", 0, [])])
            self.check(word, 16, [("take", "a", 16), ("take", "b", 1)], [("at", 0, []), ("none", 0, [])])
        self.check("halves", 24, [("take", "a", 17)], [("none", 16, [(16, 8), (0, 16)])])
        self.check("halves", 240, [("take", "a", 129)],
                   [("none", 128, [(224, 16), (192, 32), (128, 64), (0, 128)])])

    def test_gives_of_names_without_a_block(self):
        for word in WORDS:
            asks = [("take", "a", 99), ("give", "a"), ("take", "a", 1), ("give", "a"), ("take", "a", 99), ("give", "a")]
            self.check(word, 16, asks, [
                ("none", 16, [(0, 16)]), ("past", 0, []), ("at", 0, []), ("back", 0, []),
                ("none", 16, [(0, 16)]), ("past", 0, []),
            ])

    def test_next_goes_on_behind_its_mark(self):
        asks = [("take", "a", 8), ("take", "b", 8), ("give", "a"), ("give", "b"), ("take", "c", 1), ("take", "d", 17),
                ("take", "e", 15)]
        self.check("next", 16, asks, [
            ("at", 0, []), ("at", 8, []), ("back", 0, []), ("back", 8, []), ("at", 0, []), ("none", 15, [(1, 15)]),
            ("at", 1, []),
        ])
        asks = [("take", "a", 6), ("take", "b", 4), ("give", "a"), ("take", "c", 7)]
        self.check("next", 16, asks, [("at", 0, []), ("at", 6, []), ("back", 0, []), ("none", 6, [(10, 6), (0, 6)])])

    def test_as_the_words_tell(self):
        seen = {"at": 0, "none": 0, "back": 0, "past": 0}
        for many, asks in rows_of_asks():
            for word in WORDS:
                way = Way(word, many)
                told = [way.told(ask) for ask in asks]
                self.check(word, many, asks, told)
                for one in told:
                    seen[one[0]] += 1
        self.assertGreater(min(seen.values()), 100)

    def test_new_lists_each_time(self):
        for word in WORDS:
            told = trail(word, 16, ASKS)
            before = copy.deepcopy(told)
            for one in told:
                one[2].append((99, 1))
            self.assertEqual(trail(word, 16, ASKS), before)

    def test_forty_names_out(self):
        asks = [("take", f"b{at}", 1) for at in range(40)] + [("give", "b3"), ("take", "c", 1)]
        for word in WORDS:
            self.assertEqual(trail(word, 240, asks)[40], ("back", trail(word, 240, asks)[3][1], []))
            self.assertEqual([one[0] for one in trail(word, 16, asks)].count("none"), 24)

    def test_no_rule_goes_ahead_of_all(self):
        for thing in NO_WORDS:
            for many in [16, 15, None]:
                for asks in [ASKS, None, [5]]:
                    self.assertIs(refusal(NoRule, trail, thing, many, asks).word, thing)

    def test_no_many_goes_ahead_of_no_asks(self):
        for word in WORDS:
            for thing in NO_MANYS:
                for asks in [ASKS, None, [5]]:
                    self.assertIs(refusal(NoMany, trail, word, thing, asks).many, thing)

    def test_no_asks_refused(self):
        for word in WORDS:
            for asks, at in NO_ASKS:
                self.assertTrue(same(refusal(NoAsks, trail, word, 16, asks).at, at))
            for thing in things():
                told = refusal(NoAsks, trail, word, 16, [("take", "a", 3), thing])
                self.assertTrue(same(told.at, 1))


class RaceTest(unittest.TestCase):
    def by_the_words(self, word, many, asks):
        way = Way(word, many)
        refused, torn, wastes = [], [], []
        for at, ask in enumerate(asks):
            free = sum(size for _, size in way.holes())
            if way.told(ask)[0] == "none":
                refused.append(at)
                if free >= ask[2]:
                    torn.append(at)
            wastes.append(self.outer(way))
        used = sum(way.needed(size) for _, size in way.lying.values())
        asked = sum(size for _, size in way.lying.values())
        inner = Fraction(used - asked, used) if used else Fraction(0)
        mean = sum(wastes) / len(wastes) if wastes else Fraction(0)
        worths = [(one.numerator, one.denominator) for one in [self.outer(way), inner, mean]]
        return (word, refused, torn, *worths)

    def outer(self, way):
        sizes = [size for _, size in way.holes()]
        return Fraction(sum(sizes) - max(sizes), sum(sizes)) if sizes else Fraction(0)

    def test_by_hand(self):
        told = race(16, ASKS)
        self.assertTrue(same(told, [
            ("first", [6, 10], [], (2, 3), (0, 1), (1289, 3960)),
            ("tightest", [6, 10], [], (2, 3), (0, 1), (1289, 3960)),
            ("next", [6, 10], [], (0, 1), (0, 1), (17, 396)),
            ("halves", [5, 6, 10], [5, 10], (5, 9), (0, 1), (33461, 76230)),
        ]), told)

    def test_torn(self):
        asks = [("take", "a", 4), ("take", "b", 4), ("take", "c", 4), ("take", "d", 4), ("give", "a"), ("give", "c"),
                ("take", "e", 8), ("take", "f", 9), ("take", "g", 5), ("give", "f"), ("take", "f", 4)]
        for told in race(16, asks):
            self.assertTrue(same(told[1:5], ([6, 7, 8], [6, 8], (0, 1), (0, 1))), told)
        for told in race(16, asks[:7]):
            mean = (4, 21) if told[0] == "halves" else (1, 7)
            self.assertTrue(same(told[1:], ([6], [6], (1, 2), (0, 1), mean)), told)

    def test_by_halves_the_asked_cells_count(self):
        asks = [("take", "a", 5), ("take", "b", 9), ("take", "c", 8), ("take", "d", 3), ("give", "a"), ("take", "e", 9)]
        told = race(16, asks)[3]
        self.assertEqual(told[:3], ("halves", [1, 3, 5], []))
        told = race(16, [("take", "a", 3), ("take", "b", 9), ("take", "c", 12), ("take", "d", 13)])[3]
        self.assertTrue(same(told, ("halves", [1, 2, 3], [1, 2], (1, 3), (1, 4), (1, 3))), told)

    def test_no_asks(self):
        self.assertTrue(same(race(16, []), [(word, [], [], (0, 1), (0, 1), (0, 1)) for word in WORDS]))
        told = race(240, [])
        self.assertTrue(same(told[:3], [(word, [], [], (0, 1), (0, 1), (0, 1)) for word in WORDS[:3]]))
        self.assertTrue(same(told[3], ("halves", [], [], (7, 15), (0, 1), (0, 1))))

    def test_the_mean_counts_each_ask(self):
        told = race(240, [("take", "a", 241), ("give", "a")])
        self.assertTrue(same(told[0], ("first", [0], [], (0, 1), (0, 1), (0, 1))))
        self.assertTrue(same(told[3], ("halves", [0], [], (7, 15), (0, 1), (7, 15))))
        told = race(16, [("take", "a", 4), ("take", "b", 8), ("give", "a")])
        self.assertTrue(same(told[0], ("first", [], [], (1, 2), (0, 1), (1, 6))))

    def test_as_the_words_tell(self):
        torn = 0
        for many, asks in rows_of_asks():
            before = copy.deepcopy(asks)
            told = race(many, asks)
            self.assertTrue(same(told, [self.by_the_words(word, many, asks) for word in WORDS]), (many, asks))
            self.assertTrue(same(asks, before))
            torn += sum(len(one[2]) for one in told)
        self.assertGreater(torn, 20)

    def test_the_numbers_of_the_trails(self):
        for many, asks in rows_of_asks():
            for told in race(many, asks):
                went = trail(told[0], many, asks)
                self.assertEqual(told[1], [at for at, one in enumerate(went) if one[0] == "none"])

    def test_new_lists_each_time(self):
        told = race(16, ASKS)
        before = copy.deepcopy(told)
        for one in told:
            one[1].append(99)
            one[2].append(99)
        told.clear()
        self.assertEqual(race(16, ASKS), before)

    def test_no_many_goes_ahead_of_no_asks(self):
        for thing in NO_MANYS:
            for asks in [ASKS, [], None, [5]]:
                self.assertIs(refusal(NoMany, race, thing, asks).many, thing)

    def test_no_asks_refused(self):
        for asks, at in NO_ASKS:
            self.assertTrue(same(refusal(NoAsks, race, 16, asks).at, at))
        for thing in things():
            if not isinstance(thing, list):
                self.assertTrue(same(refusal(NoAsks, race, 16, thing).at, -1))
            self.assertTrue(same(refusal(NoAsks, race, 16, [("take", "a", 3), thing]).at, 1))


class FewestTest(unittest.TestCase):
    def row(self, word, refused):
        return (word, list(range(refused)), [], (0, 1), (0, 1), (1, 2))

    def check(self, rows, words):
        told = [self.row(*row) for row in rows]
        before = copy.deepcopy(told)
        self.assertTrue(same(fewest(told), words), fewest(told))
        self.assertEqual(told, before)

    def test_by_hand(self):
        self.check([], [])
        self.check([("next", 0)], ["next"])
        self.check([("next", 7)], ["next"])
        self.check([("first", 2), ("tightest", 1), ("next", 3), ("halves", 4)], ["tightest"])
        self.check([("first", 2), ("tightest", 1), ("next", 1), ("halves", 1)], ["tightest", "next", "halves"])
        self.check([("first", 2), ("tightest", 2), ("next", 2), ("halves", 2)], WORDS)

    def test_in_any_order(self):
        self.check([("halves", 1), ("first", 2), ("tightest", 1)], ["halves", "tightest"])
        self.check([("next", 0), ("halves", 0), ("first", 0)], ["next", "halves", "first"])

    def test_the_same_one_twice(self):
        self.check([("first", 1), ("first", 1)], ["first", "first"])
        self.check([("next", 3), ("first", 1), ("next", 3), ("first", 1), ("next", 1)], ["first", "first", "next"])
        self.check([("next", 3)] * 40, ["next"] * 40)

    def test_only_the_refused_count(self):
        told = [
            ("first", [4], [], (1, 2), (0, 1), (3, 4)), ("tightest", [0, 1], [0, 1], (0, 1), (0, 1), (0, 1)),
            ("next", [119], [119], (1, 9), (0, 1), (1, 9)),
        ]
        self.assertEqual(fewest(told), ["first", "next"])

    def test_of_races(self):
        for many, asks in rows_of_asks():
            told = race(many, asks)
            least = min(len(one[1]) for one in told)
            self.assertEqual(fewest(told), [one[0] for one in told if len(one[1]) == least])
        self.assertEqual(fewest(race(16, ASKS)), ["first", "tightest", "next"])

    def test_a_new_list_each_time(self):
        told = race(16, ASKS)
        fewest(told).clear()
        self.assertEqual(fewest(told), ["first", "tightest", "next"])


if __name__ == "__main__":
    unittest.main()
