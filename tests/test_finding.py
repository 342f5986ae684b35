"""[36]: whether a thing is what a rule must tell."""

import copy
import random
import unittest

from slideroom.errors import NoHole, NoRule
from slideroom.finding import is_found
from slideroom.rules import First, Next, Tightest
from things import not_whole, refusal, same, things

HOLES = [(0, 1), (3, 2), (6, 1), (10, 4), (20, 5), (30, 4)]


class FoundTest(unittest.TestCase):
    def test_the_told_tuple(self):
        for word, mark, size, told in [
            ("first", 0, 1, (0, [])),
            ("first", 9, 2, (3, [(0, 1)])),
            ("first", 0, 4, (10, [(0, 1), (3, 2), (6, 1)])),
            ("tightest", 0, 1, (0, [])),
            ("tightest", 9, 2, (3, [(0, 1), (6, 1)])),
            ("tightest", 0, 4, (10, [(0, 1), (6, 1), (3, 2)])),
            ("tightest", 0, 5, (20, [(0, 1), (6, 1), (3, 2), (10, 4), (30, 4)])),
            ("next", 0, 2, (3, [(0, 1)])),
            ("next", 3, 2, (3, [])),
            ("next", 4, 2, (10, [(6, 1)])),
            ("next", 11, 4, (20, [])),
            ("next", 21, 5, (20, [(30, 4), (0, 1), (3, 2), (6, 1), (10, 4)])),
            ("next", 240, 1, (0, [])),
        ]:
            self.assertIs(is_found(word, HOLES, mark, size, told), True, (word, mark, size))
            self.check_others(word, mark, size, told)

    def check_others(self, word, mark, size, told):
        start, passed = told
        others = [(start + 1, passed), (start - 1, passed), (start, passed + [(20, 5)]), (start, [(0, 1)] + passed)]
        others += [(other, passed) for other, _ in HOLES if other != start]
        others += [(start, passed[:at] + passed[at + 1:]) for at in range(len(passed))]
        others += [(start, list(reversed(passed)))] if len(passed) > 1 else []
        others += [(start, passed[:at] + [list(passed[at])] + passed[at + 1:]) for at in range(len(passed))]
        others += [(start, tuple(passed)), [start, passed], (start,), (start, passed, 0), (passed, start), start]
        others += [{start: passed}, (str(start), passed)]
        for other in others:
            self.assertIs(is_found(word, HOLES, mark, size, other), False, (word, mark, size, other))

    def test_truths_for_numbers(self):
        for told in [(0, []), (False, [])]:
            self.assertIs(is_found("first", HOLES, 0, 1, told), told[0] is not False)
        holes = [(0, 1), (3, 2)]
        self.assertIs(is_found("first", holes, 0, 2, (3, [(0, 1)])), True)
        for told in [(3, [(False, 1)]), (3, [(0, True)]), (3, [(False, True)])]:
            self.assertIs(is_found("first", holes, 0, 2, told), False)
        self.assertIs(is_found("first", [(1, 4)], 0, 2, (True, [])), False)

    def test_things_of_every_other_kind(self):
        for word in ["first", "tightest", "next"]:
            for thing in things():
                self.assertIs(is_found(word, HOLES, 0, 2, thing), False, thing)
                for told in [(3, thing), (3, [thing]), (3, [(0, thing)]), (3, [(thing, 1)]), (thing, [(0, 1)])]:
                    right = (3, [(0, 1), (6, 1)] if word == "tightest" else [(0, 1)])
                    self.assertIs(is_found(word, HOLES, 0, 2, told), same(told, right), told)

    def test_no_hole_large_enough(self):
        for word in ["first", "tightest", "next"]:
            for size in [6, 240, 10 ** 30, 10 ** 60 - 1]:
                for told in things() + [(20, HOLES), (20, []), (0, sorted(HOLES)), (240, HOLES), (None, HOLES), None]:
                    self.assertIs(is_found(word, HOLES, 0, size, told), False, told)
            self.assertIs(is_found(word, [], 0, 1, (0, [])), False)

    def test_no_rule(self):
        for thing in things() + ["First", "first ", "", "halves", ["first"], ("next",), {"first": 1}]:
            if thing not in ["first", "tightest", "next"]:
                self.assertIs(refusal(NoRule, is_found, thing, HOLES, 0, 1, (0, [])).word, thing)
                self.assertIs(refusal(NoRule, is_found, thing, [], 0, 1, None).word, thing)

    def test_the_mark_is_looked_at_by_next_alone(self):
        for mark in [0, 1, 100, 240]:
            self.assertIs(is_found("first", HOLES, mark, 1, (0, [])), True)
            self.assertIs(is_found("tightest", HOLES, mark, 1, (0, [])), True)
        self.assertIs(is_found("next", HOLES, 1, 1, (0, [])), False)
        self.assertIs(is_found("next", HOLES, 1, 1, (3, [])), True)

    def test_what_is_handed_in_stays(self):
        holes = copy.deepcopy(HOLES)
        told = (10, [(0, 1), (6, 1), (3, 2)])
        for word in ["first", "tightest", "next"]:
            is_found(word, holes, 7, 4, told)
        self.assertTrue(same(holes, HOLES))
        self.assertTrue(same(told, (10, [(0, 1), (6, 1), (3, 2)])))

    def test_not_whole_starts(self):
        for thing in not_whole():
            self.assertIs(is_found("first", HOLES, 0, 1, (thing, [])), False)


class WhatTheRulesTellTest(unittest.TestCase):
    def test_each_rule(self):
        chance = random.Random(36)
        for _ in range(40):
            mark = chance.randint(0, 60)
            rules = [First(60), Tightest(60), Next(60, mark)]
            for cell in chance.sample(range(60), chance.randint(0, 40)):
                for rule in rules:
                    rule.put(cell, 1)
            for size in range(1, 12):
                for rule in rules:
                    self.check(rule, mark, size, rules)

    def check(self, rule, mark, size, rules):
        try:
            told = rule.look(size)
        except NoHole:
            return
        for other in rules:
            right = same(other.look(size), told)
            self.assertIs(is_found(other.rule_word(), rule.holes(), mark, size, told), right)


if __name__ == "__main__":
    unittest.main()
