"""[94]: rows of asks."""

import copy
import random
import unittest

from slideroom.asks import need_asks
from slideroom.errors import NoAsks
from things import nested, not_whole, refusal, same, things

BIG = 10 ** 60 - 1
NAMES = ["a", "box", "first", "tightest", "next", "halves"]


def takes(many):
    return [("take", f"b{at}", 1) for at in range(many)]


class LetByTest(unittest.TestCase):
    def check(self, asks):
        before = copy.deepcopy(asks)
        told = need_asks(asks)
        self.assertTrue(same(told, before))
        self.assertIsNot(told, asks)
        told.append(None)
        self.assertTrue(same(asks, before))

    def test_rows_of_asks(self):
        self.check([])
        self.check([("take", "a", 1)])
        self.check([("take", "a", 1), ("give", "a")])
        self.check([("take", "a", 3), ("take", "b", BIG), ("give", "a"), ("take", "a", 240), ("give", "b")])
        self.check([("take", "a", 1), ("give", "a")] * 60)

    def test_all_names_that_are_names(self):
        for name in NAMES + ["a1234567", "z9", "take", "give"]:
            self.check([("take", name, 7), ("give", name)])

    def test_forty_names_out(self):
        self.check(takes(40))
        self.check(takes(40) + [("give", "b7"), ("take", "c", 1), ("give", "c"), ("take", "b7", 2)])

    def test_a_hundred_and_twenty_members(self):
        self.check(takes(40) + [("give", f"b{at}") for at in range(40)] + takes(40))

    def test_what_is_changed_afterwards_changes_nothing(self):
        asks = [("take", "a", 1)]
        told = need_asks(asks)
        asks.clear()
        self.assertEqual(told, [("take", "a", 1)])


class RefusedTest(unittest.TestCase):
    def check(self, asks, at):
        before = copy.deepcopy(asks)
        self.assertTrue(same(refusal(NoAsks, need_asks, asks).at, at), asks)
        self.assertTrue(same(asks, before))

    def check_member(self, member):
        """What is no ask behind any row that is one."""
        for ahead in [[], [("take", "zz", 2)], [("take", "zz", 2), ("give", "zz")], takes(39)]:
            self.check(ahead + [member], len(ahead))
            self.check(ahead + [member, ("give", "never")], len(ahead))

    def test_no_list(self):
        for thing in things():
            if not isinstance(thing, list):
                self.check(thing, -1)
        self.check((("take", "a", 1),), -1)
        self.check({("take", "a", 1): 1}, -1)

    def test_too_many_members(self):
        self.check([("take", "a", 1), ("give", "a")] * 60 + [("take", "a", 1)], 121)
        for thing in things():
            self.check([thing] * 121, 121)
            self.check([thing] * 200, 200)
            self.check([("take", "a", 1), ("give", "a")] * 60 + [thing], 121)

    def test_the_last_of_a_hundred_and_twenty(self):
        self.check([("take", "a", 1), ("give", "a")] * 59 + [("take", "a", 1), None], 119)

    def test_members_of_every_kind(self):
        for thing in things() + [nested(9)]:
            self.check_member(thing)
            for member in [
                (thing,), (thing, "a"), (thing, "a", 1), ("take", thing), ("take", "a", 1, thing), ("give", "a", thing),
                ["take", "a", thing], [thing, "a", 1],
            ]:
                self.check_member(member)
            if not (isinstance(thing, str) and thing in NAMES):
                self.check_member(("take", thing, 1))
                self.check_member(("give", thing))

    def test_no_sizes(self):
        for thing in not_whole() + [0, -1, -BIG]:
            self.check_member(("take", "a", thing))

    def test_other_words(self):
        for word in ["Take", "take ", "", "taken", "give", "at", "TAKE"]:
            self.check_member((word, "a", 1))
        for word in ["Give", "give ", "", "take", "back"]:
            self.check([("take", "a", 1), (word, "a")], 1)
            self.check([("take", "a", 1), (word, "a", 1)], 1)

    def test_lists_for_tuples(self):
        self.check([["take", "a", 1]], 0)
        self.check([("take", "a", 1), ["give", "a"]], 1)

    def test_a_name_that_is_out(self):
        self.check([("take", "a", 1), ("take", "a", 1)], 1)
        self.check([("take", "a", 1), ("take", "b", 1), ("take", "a", 2)], 2)
        self.check([("take", "a", BIG), ("take", "a", 1)], 1)
        self.check([("take", "a", 1), ("give", "a"), ("take", "a", 1), ("take", "a", 1)], 3)

    def test_a_name_that_is_not_out(self):
        self.check([("give", "a")], 0)
        self.check([("take", "a", 1), ("give", "b")], 1)
        self.check([("take", "a", 1), ("give", "a"), ("give", "a")], 2)
        self.check([("take", "b", 1), ("take", "a", 1), ("give", "a"), ("give", "b"), ("give", "a")], 4)

    def test_forty_one_names_out(self):
        self.check(takes(41), 40)
        self.check(takes(40) + [("give", "b0"), ("take", "c", 1), ("take", "b0", 1)], 42)
        self.check(takes(40) + [("take", "b0", 1)], 40)

    def test_the_first_one_is_told(self):
        self.check([None, None], 0)
        self.check([("take", "a", 1), None, ("give", "b"), 5], 1)

    def test_some_rows(self):
        chance = random.Random(94)
        said = 0
        for _ in range(300):
            asks = [
                ("take", chance.choice("abcdef"), 1) if chance.random() < 0.6 else ("give", chance.choice("abcdef"))
                for _ in range(chance.randint(1, 6))
            ]
            at = self.first_wrong(asks)
            if at is None:
                self.assertEqual(need_asks(asks), asks)
            else:
                self.check(asks, at)
                said += 1
        self.assertTrue(50 < said < 270, said)

    def first_wrong(self, asks):
        for at, ask in enumerate(asks):
            ahead = [one[0] for one in asks[:at] if one[1] == ask[1]]
            out = ahead[-1:] == ["take"]
            if out == (ask[0] == "take"):
                return at
        return None


if __name__ == "__main__":
    unittest.main()
