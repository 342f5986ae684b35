"""[5], [12]: the refusals."""

import unittest

from slideroom import errors
from slideroom.errors import RoomError
from things import things

FIELDS = {
    "NoMany": ["many"], "NoName": ["name"], "NoSize": ["size"], "NoPlace": ["at"], "NoValue": ["value"],
    "NoRow": ["row"], "Twice": ["name"], "Outside": ["name"], "Overlap": ["name", "other"], "TooMany": ["many"],
    "NoBlock": ["name"], "NoText": ["row"], "NotFree": ["start", "size"], "NotTaken": ["start", "size"],
    "NoHole": ["size", "largest"], "NoRule": ["word"], "Pinned": ["name", "pins"], "NotPinned": ["name"],
    "Gone": ["name"], "NoMoves": ["moves"], "NoSlide": ["name", "to"], "Sliding": ["copied"], "NotSliding": [],
    "Fixed": ["word"], "NoRoom": ["size", "stretches"], "NoWay": ["way"], "NoAsks": ["at"], "NoLine": ["line"],
}


class ErrorsTest(unittest.TestCase):
    def test_the_class_above_them(self):
        self.assertEqual(RoomError.__bases__, (ValueError,))

    def test_each_stands_straight_under_it(self):
        for name in FIELDS:
            self.assertEqual(getattr(errors, name).__bases__, (RoomError,), name)

    def test_none_stands_under_another_one(self):
        for name in FIELDS:
            for other in FIELDS:
                under = issubclass(getattr(errors, name), getattr(errors, other))
                self.assertEqual(under, name == other, (name, other))

    def test_each_keeps_the_very_things(self):
        for name, fields in FIELDS.items():
            for thing in things():
                handed = [[thing] for _ in fields]
                told = getattr(errors, name)(*handed)
                for field, one in zip(fields, handed):
                    self.assertIs(getattr(told, field), one, (name, field))

    def test_each_keeps_things_of_every_kind(self):
        for name, fields in FIELDS.items():
            for thing in things():
                told = getattr(errors, name)(*[thing for _ in fields])
                for field in fields:
                    self.assertIs(getattr(told, field), thing, (name, field))

    def test_what_is_changed_afterwards_is_changed_there(self):
        handed = [1]
        told = errors.NoRow(handed)
        handed.append(2)
        self.assertEqual(told.row, [1, 2])

    def test_two_of_one_class_are_apart(self):
        one = errors.Overlap("a", "b")
        other = errors.Overlap("c", "d")
        self.assertEqual((one.name, one.other, other.name, other.other), ("a", "b", "c", "d"))

    def test_each_is_raised_and_taken_as_a_refusal(self):
        for name, fields in FIELDS.items():
            with self.assertRaises(RoomError):
                raise getattr(errors, name)(*fields)


if __name__ == "__main__":
    unittest.main()
