"""Packing: blocks slid to one end, or so that the free cells between pins are joined for the least price."""

from slideroom.errors import NoWay
from slideroom.holes import holes_of
from slideroom.moves import copies_of_steps, gone_through_if_let, is_pair
from slideroom.prices import blocks_between, stretches_of
from slideroom.words import is_whole


def steps_down(blocks, first):
    """The steps (name, start, size, to) by which blocks come to lie end to end from a place on; pinned ones stay."""
    steps = []
    end_ahead = first
    for name, start, size, pins in blocks:
        to = start if pins > 0 else end_ahead
        if to != start:
            steps.append((name, start, size, to))
        end_ahead = to + size
    return steps


def steps_up(blocks, behind):
    """The steps by which blocks come to lie end to end, the last one ending at a place; pinned ones stay."""
    steps = []
    start_behind = behind
    for name, start, size, pins in reversed(blocks):
        to = start if pins > 0 else start_behind - size
        if to != start:
            steps.append((name, start, size, to))
        start_behind = to
    return steps


def moves_of(steps):
    """The moves of steps, in their order."""
    return [(step[0], step[3]) for step in steps]


def packed(layout, way="down"):
    """The moves that pack a layout down or up."""
    if way == "down":
        return moves_of(steps_down(layout.blocks(), 0))
    if way == "up":
        return moves_of(steps_up(layout.blocks(), layout.many))
    raise NoWay(way)


def fewest_holes(layout):
    """How many stretches between pins have free cells: fewer holes can't be come to by slides."""
    return len([stretch for stretch in stretches_of(layout) if stretch[2] > 0])


def cells_moved(steps):
    """How many cells are moved by steps, each of which brings its block to another place."""
    return sum([step[2] for step in steps])


def cheapest_joining(blocks, first, behind):
    """The steps that join the free cells of a stretch between pins in the gap of the least price."""
    choices = []
    for gap in range(len(blocks) + 1):
        choices.append(steps_down(blocks[:gap], first) + steps_up(blocks[gap:], behind))
    # Of several with the least price the first one is told, and so the lowest gap.
    return min(choices, key=cells_moved)


def in_moving_order(steps):
    """First the steps to lesser places, by rising starts, then those to greater places, by falling starts."""
    rising = sorted(steps, key=lambda step: step[1])
    lesser = [step for step in rising if step[3] < step[1]]
    greater = [step for step in rising if step[3] > step[1]]
    return lesser + list(reversed(greater))


def tidied(layout):
    """The least price for which there are as few holes as can be, and the moves that bring that."""
    steps = []
    for first, behind, free in stretches_of(layout):
        steps.extend(cheapest_joining(blocks_between(layout, first, behind), first, behind))
    return (cells_moved(steps), moves_of(in_moving_order(steps)))


def is_tidied(layout, told):
    """Whether the thing is a tuple (price, moves) that leaves as few holes as can be, and for the least price."""
    if not is_pair(told) or not is_whole(told[0]):
        return False
    gone = gone_through_if_let(layout, told[1])
    if gone is None or len(holes_of(gone[1])) != fewest_holes(layout):
        return False
    return len(copies_of_steps(gone[0])) == told[0] and told[0] == tidied(layout)[0]
