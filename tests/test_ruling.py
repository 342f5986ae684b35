"""[47]: rules made by their words."""

import unittest

from slideroom.errors import NoMany, NoPlace, NoRule
from slideroom.halves import Halves
from slideroom.rules import First, Next, Rule, Tightest
from slideroom.ruling import rule_of
from things import not_whole, refusal, same, things

BIG = 10 ** 60 - 1
CLASSES = {"first": First, "tightest": Tightest, "next": Next, "halves": Halves}
NO_WORDS = [thing for thing in things() if not isinstance(thing, str) or thing not in CLASSES] + [
    "First", "FIRST", " first", "first ", "first\n", "firs", "nextt", "half", "halve", "first next", "best", "worst",
    ["first"], ("first",), ("next", 0), {"first": First(16).mark()}, {"next": 1}, [["halves"]],
]


class MadeTest(unittest.TestCase):
    def test_each_word_makes_its_class(self):
        for word, made in CLASSES.items():
            for many in [16, 17, 100, 240]:
                rule = rule_of(word, many)
                self.assertIs(type(rule), made)
                self.assertEqual(rule.rule_word(), word)
                self.assertTrue(same(rule.mark(), 0))
                self.assertEqual(rule.holes(), made(many).holes())
                self.assertEqual(rule.free_cells(), many)

    def test_how_the_classes_stand(self):
        for made in CLASSES.values():
            self.assertEqual(made.__bases__, (Rule,))
            for other in CLASSES.values():
                self.assertEqual(issubclass(made, other), made is other)

    def test_a_word_that_was_put_together(self):
        self.assertIs(type(rule_of("".join(["ne", "xt"]), 16)), Next)
        self.assertIs(type(rule_of("".join(["hal", "ves"]), 16)), Halves)

    def test_two_are_apart(self):
        for word in CLASSES:
            one = rule_of(word, 16)
            other = rule_of(word, 16)
            one.take(5)
            self.assertEqual(other.holes(), [(0, 16)])
            self.assertEqual(other.mark(), 0)


class MarkTest(unittest.TestCase):
    def test_next_has_the_mark(self):
        for many in [16, 33, 240]:
            for mark in [0, 1, many - 1, many]:
                self.assertTrue(same(rule_of("next", many, mark).mark(), mark))

    def test_the_mark_is_gone_by(self):
        rule = rule_of("next", 16, 9)
        rule.put(0, 2)
        rule.put(6, 3)
        self.assertEqual(rule.order(), [(9, 7), (2, 4)])

    def test_next_refuses_other_marks(self):
        for thing in not_whole() + [-1, 17, 240, BIG, -BIG]:
            self.assertIs(refusal(NoPlace, rule_of, "next", 16, thing).at, thing)
        self.assertEqual(refusal(NoPlace, rule_of, "next", 240, 241).at, 241)

    def test_the_others_have_nought_alone(self):
        for word in ["first", "tightest", "halves"]:
            self.assertTrue(same(rule_of(word, 16, 0).mark(), 0))
            for thing in not_whole() + [1, -1, 15, 16, 17, 240, BIG, -BIG]:
                self.assertIs(refusal(NoPlace, rule_of, word, 16, thing).at, thing)

    def test_false_is_no_nought(self):
        for word in CLASSES:
            self.assertIs(refusal(NoPlace, rule_of, word, 16, False).at, False)


class RefusedTest(unittest.TestCase):
    def test_words_that_are_none(self):
        for thing in NO_WORDS:
            self.assertIs(refusal(NoRule, rule_of, thing, 16).word, thing)

    def test_how_many_cells(self):
        for word in CLASSES:
            for thing in not_whole() + [15, 241, 0, -16, BIG, -BIG]:
                self.assertIs(refusal(NoMany, rule_of, word, thing).many, thing)

    def test_the_word_goes_first(self):
        for thing in NO_WORDS:
            self.assertIs(refusal(NoRule, rule_of, thing, 15, 99).word, thing)
            self.assertIs(refusal(NoRule, rule_of, thing, None, 0).word, thing)
            self.assertIs(refusal(NoRule, rule_of, thing, 16, True).word, thing)

    def test_the_number_of_cells_goes_ahead_of_the_mark(self):
        for word in CLASSES:
            for many in [15, 241, None, True, "16"]:
                for mark in [-1, 242, None, False]:
                    self.assertIs(refusal(NoMany, rule_of, word, many, mark).many, many)


if __name__ == "__main__":
    unittest.main()
