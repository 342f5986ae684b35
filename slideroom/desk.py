"""A desk: it is told lines, does in a room what they tell, and answers texts."""

from slideroom.deeds import answer_in, room_that_stands
from slideroom.errors import NoLine
from slideroom.lines import read_line
from slideroom.room import Room


class Desk:
    """A room, once there is one, and what is answered to lines."""

    def __init__(self):
        self.room = None

    def answer(self, line):
        """Do what a line tells; the text that is answered."""
        parts = read_line(line)
        if parts[0] == "memory":
            self.room = Room(parts[1], parts[2])
            return "ok"
        if parts[0] == "stand":
            self.room = room_that_stands(parts[1], parts[2], parts[3], parts[4], parts[5])
            return "ok"
        if self.room is None:
            raise NoLine(line)
        return answer_in(self.room, parts)
