"""What several tests of layouts need: layouts by chance, all places of blocks, and the copies of moves."""

from slideroom.layouts import Layout
from slideroom.moves import steps_of


def some_layout(chance, many, sizes=5, pinned=0.3):
    rows = []
    at = chance.randrange(4)
    while at < many and len(rows) < 40:
        size = min(chance.randint(1, sizes), many - at)
        rows.append((f"b{len(rows)}", at, size, chance.randint(1, 3) if chance.random() < pinned else 0))
        at += size + chance.randrange(5)
    return Layout(many, rows)


def copies_of_moves(layout, moves):
    return sum(size for _, start, size, to in steps_of(layout, moves) if to != start)


def placements(layout):
    """All layouts with the same blocks in the same order, the pinned ones where they were."""
    def further(rows, blocks, first):
        if not blocks:
            yield Layout(layout.many, rows)
            return
        name, start, size, pins = blocks[0]
        for to in [start] if pins > 0 else range(first, layout.many - size + 1):
            if to >= first:
                yield from further(rows + [(name, to, size, pins)], blocks[1:], to + size)

    return list(further([], layout.blocks(), 0))
