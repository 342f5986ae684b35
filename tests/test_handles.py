"""[56]: handles, and of [6] what is read through them."""

import random
import unittest

from slideroom.errors import Gone, NoPlace, NoValue
from slideroom.handles import Handle
from slideroom.layouts import Layout
from slideroom.memory import Memory
from memories import WORDS, filled, state, taken_as
from things import not_whole, refusal, same, things

BIG = 10 ** 60 - 1


def memories(*rows):
    return [taken_as(Memory(16, word), *rows) for word in WORDS]


class ToldTest(unittest.TestCase):
    def test_what_it_tells(self):
        for memory in memories(("a", 4), ("box", 3)):
            filled(memory)
            for handle in [memory.handle("box"), memory.handle("box")]:
                self.assertIs(type(handle), Handle)
                self.assertTrue(same(handle.block_name(), "box"))
                self.assertIs(handle.is_there(), True)
                self.assertTrue(same((handle.block_size(), handle.block_start()), (3, 4)))
                self.assertTrue(same([handle.read(at) for at in range(3)], [2000, 2001, 2002]))
                self.assertTrue(same(handle.all_values(), [2000, 2001, 2002]))
                self.assertTrue(same([handle.reader()(at) for at in range(3)], [2000, 2001, 2002]))

    def test_the_one_that_taking_tells(self):
        for word in WORDS:
            memory = Memory(16, word)
            handle = memory.take("a", 4)
            self.assertIs(handle.is_there(), True)
            self.assertEqual((handle.block_name(), handle.block_size(), handle.block_start()), ("a", 4, 0))
            self.assertEqual(handle.all_values(), [0, 0, 0, 0])

    def test_written(self):
        for memory in memories(("a", 4), ("b", 3)):
            handle = memory.handle("b")
            for value in [0, 7, -7, 10 ** 30 - 1, -(10 ** 30 - 1)]:
                for at in [0, 2]:
                    self.assertIsNone(handle.write(at, value))
                    self.assertTrue(same((handle.read(at), memory.read("b", at)), (value, value)))
            self.assertEqual(memory.values_of("a"), [0] * 4)

    def test_what_was_written_through_one_is_read_through_all(self):
        for memory in memories(("a", 4), ("b", 3)):
            one = memory.handle("b")
            other = memory.handle("b")
            reader = other.reader()
            one.write(1, 5)
            self.assertEqual([other.read(1), reader(1), memory.read("b", 1), memory.held[5]], [5, 5, 5, 5])
            memory.write("b", 2, 6)
            other.write(0, 4)
            self.assertEqual([one.all_values(), other.all_values(), memory.values_of("b")], [[4, 5, 6]] * 3)
            self.assertEqual([reader(at) for at in range(3)], [4, 5, 6])

    def test_told_lists_are_the_askers_own(self):
        for memory in memories(("a", 4)):
            handle = memory.handle("a")
            handle.all_values().append(3)
            handle.all_values()[0] = 3
            self.assertEqual(handle.all_values(), [0, 0, 0, 0])

    def test_a_reader_tells_what_is_there_then(self):
        for memory in memories(("a", 4), ("b", 3)):
            reader = memory.handle("a").reader()
            for value in [3, -9]:
                memory.write("a", 3, value)
                self.assertEqual(reader(3), value)
            memory.settle("a", 12)
            memory.write("a", 3, 8)
            self.assertEqual((reader(3), memory.held[15]), (8, 8))

    def test_pins_change_nothing(self):
        for memory in memories(("a", 4)):
            handle = memory.handle("a")
            memory.pin("a")
            handle.write(0, 5)
            self.assertEqual((handle.is_there(), handle.read(0)), (True, 5))


class RefusedTest(unittest.TestCase):
    def ways(self, handle):
        return [handle.read, handle.reader(), lambda at: handle.write(at, 5), lambda at: handle.write(at, None)]

    def test_the_edges(self):
        for memory in memories(("a", 4), ("b", 3), ("c", 1)):
            before = state(memory)
            for name, size in [("a", 4), ("b", 3), ("c", 1)]:
                for asked in self.ways(memory.handle(name)):
                    for at in [-1, size, size + 1, BIG, -BIG]:
                        self.assertEqual(refusal(NoPlace, asked, at).at, at)
            self.assertEqual(state(memory), before)

    def test_at_of_any_thing(self):
        for memory in memories(("a", 4)):
            before = state(memory)
            for thing in not_whole():
                for asked in self.ways(memory.handle("a")):
                    self.assertIs(refusal(NoPlace, asked, thing).at, thing)
            self.assertEqual(state(memory), before)

    def test_no_value(self):
        for memory in memories(("a", 4)):
            handle = memory.handle("a")
            handle.write(3, 7)
            for thing in not_whole() + [10 ** 30, -(10 ** 30), BIG]:
                self.assertIs(refusal(NoValue, handle.write, 3, thing).value, thing)
            self.assertEqual(handle.read(3), 7)


class GoneTest(unittest.TestCase):
    def check_gone(self, handle, reader, name):
        self.assertIs(handle.is_there(), False)
        self.assertTrue(same(handle.block_name(), name))
        for asked in [handle.block_size, handle.block_start, handle.all_values, handle.reader]:
            self.assertTrue(same(refusal(Gone, asked).name, name))
        for thing in things():
            self.assertTrue(same(refusal(Gone, handle.read, thing).name, name))
            self.assertTrue(same(refusal(Gone, reader, thing).name, name))
            self.assertTrue(same(refusal(Gone, handle.write, thing, thing).name, name))

    def test_given_back(self):
        for memory in memories(("a", 4), ("b", 3)):
            one = memory.handle("a")
            other = memory.handle("a")
            kept = memory.handle("b")
            readers = [one.reader(), other.reader()]
            memory.give("a")
            before = state(memory)
            self.check_gone(one, readers[0], "a")
            self.check_gone(other, readers[1], "a")
            self.assertEqual((kept.is_there(), kept.block_start()), (True, 4))
            self.assertEqual(state(memory), before)

    def test_another_block_has_the_name_since(self):
        for word in WORDS:
            memory = Memory(16, word)
            old = memory.take("a", 4)
            reader = old.reader()
            memory.give("a")
            new = memory.take("a", 4)
            before = state(memory)
            self.check_gone(old, reader, "a")
            self.assertEqual(state(memory), before)
            self.assertEqual((new.is_there(), new.all_values()), (True, [0] * 4))
            memory.give("a")
            again = memory.take("a", 2)
            self.check_gone(old, reader, "a")
            self.assertEqual((new.is_there(), again.is_there(), memory.handle("a").is_there()), (False, True, True))

    def test_a_block_that_stands_there_since(self):
        for word in WORDS:
            memory = Memory(16, word)
            old = memory.take("a", 4)
            reader = old.reader()
            memory.give("a")
            memory.stand(Layout(16, [("a", 0, 4, 0)]))
            self.check_gone(old, reader, "a")
            standing = memory.handle("a")
            self.assertIs(standing.is_there(), True)
            memory.give("a")
            self.check_gone(standing, reader, "a")

    def test_a_refused_giving_leaves_it(self):
        for memory in memories(("a", 4)):
            handle = memory.handle("a")
            memory.pin("a")
            with self.assertRaises(ValueError):
                memory.give("a")
            self.assertEqual((handle.is_there(), handle.block_size()), (True, 4))

    def test_memories_are_apart(self):
        for word in WORDS:
            one = Memory(16, word)
            other = Memory(16, word)
            handle = one.take("a", 4)
            other.take("a", 4)
            other.give("a")
            self.assertIs(handle.is_there(), True)
            handle.write(0, 5)
            self.assertEqual(other.held, [0] * 16)
            one.give("a")
            other.take("a", 4)
            self.assertIs(handle.is_there(), False)


class DeedsTest(unittest.TestCase):
    """Of [6]: what is read through a handle is what was written there last, 0 where nothing was."""

    def test_rows_of_deeds(self):
        for word in WORDS:
            chance = random.Random(56)
            memory = Memory(40, word)
            told = []
            for _ in range(400):
                name = chance.choice("abcdef")
                there = [one for one in told if one["there"] and one["name"] == name]
                if not there and memory.largest_hole() >= 8:
                    size = chance.randint(1, 8)
                    handle = memory.take(name, size)
                    handles = [handle, memory.handle(name)]
                    told.append({"name": name, "there": True, "handles": handles, "reader": handle.reader(),
                                 "values": [0] * size})
                elif there and chance.randrange(3) == 0:
                    memory.give(name)
                    there[0]["there"] = False
                elif there:
                    at = chance.randrange(len(there[0]["values"]))
                    there[0]["values"][at] = chance.randint(-99, 99)
                    chance.choice(there[0]["handles"]).write(at, there[0]["values"][at])
                self.check(told)

    def check(self, told):
        for one in told:
            for handle in one["handles"]:
                self.assertEqual(handle.is_there(), one["there"])
                if one["there"]:
                    self.assertEqual(handle.all_values(), one["values"])
            if one["there"]:
                self.assertEqual([one["reader"](at) for at in range(len(one["values"]))], one["values"])
            else:
                self.assertEqual(refusal(Gone, one["reader"], 0).name, one["name"])


if __name__ == "__main__":
    unittest.main()
