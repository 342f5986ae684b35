"""Moves: slides of blocks over free cells, one behind the other, told of a layout."""

from slideroom.copies import copies_of
from slideroom.errors import NoMoves, NoSlide, Pinned, RoomError, Twice
from slideroom.layouts import cells_of
from slideroom.stretches import end_of
from slideroom.words import is_within


def is_pair(thing):
    """Whether the thing is a tuple of two things."""
    return isinstance(thing, tuple) and len(thing) == 2


def is_slide(layout, name, to):
    """Whether a block can be slid to a place, over free cells and cells of its own alone."""
    blocks = layout.blocks()
    at = layout.names().index(name)
    least = 0 if at == 0 else end_of(cells_of(blocks[at - 1]))
    behind = layout.many if at == len(blocks) - 1 else blocks[at + 1][1]
    return is_within(to, least, behind - blocks[at][2])


def step_of(layout, name, to, moved_ahead):
    """The tuple (name, start, size, to) of one move; refused where it can't be done as things lie in the layout."""
    block = layout.block(name)
    if name in moved_ahead:
        raise Twice(name)
    if block[3] > 0:
        raise Pinned(name, block[3])
    if not is_slide(layout, name, to):
        raise NoSlide(name, to)
    return (name, block[1], block[2], to)


def gone_through(layout, moves):
    """The steps of the moves and the layout behind them."""
    if not isinstance(moves, list) or not all([is_pair(move) for move in moves]):
        raise NoMoves(moves)
    steps = []
    for name, to in moves:
        moved_ahead = [step[0] for step in steps]
        steps.append(step_of(layout, name, to, moved_ahead))
        layout = layout.moved(name, to)
    return (steps, layout)


def gone_through_if_let(layout, moves):
    """The steps of the moves and the layout behind them, None where the moves are refused."""
    try:
        return gone_through(layout, moves)
    except RoomError:
        return None


def steps_of(layout, moves):
    """The steps of the moves, tuples (name, start, size, to)."""
    return gone_through(layout, moves)[0]


def slid(layout, moves):
    """The layout behind the moves."""
    return gone_through(layout, moves)[1]


def copies_of_steps(steps):
    """The copies of all steps, those of one step behind those of the other."""
    copies = []
    for name, start, size, to in steps:
        copies.extend(copies_of(start, size, to))
    return copies
