"""Deeds: what is done in a room for each kind of line, and the text that is answered."""

from slideroom.layouts import Layout
from slideroom.lines import write_blocks, write_moves, write_standing, write_stretches, write_values
from slideroom.memory import need_new
from slideroom.plans import plan
from slideroom.room import Room
from slideroom.waste import waste_of


def room_that_stands(many, word, mark, rows, values):
    """A new room with these blocks, whose cells read these values."""
    room = Room(many, word)
    room.stand(Layout(many, rows), mark)
    for row, cells in zip(rows, values):
        for at, value in enumerate(cells):
            room.write(row[0], at, value)
    return room


def answer_show(room, parts):
    """What stands."""
    rows = room.blocks()
    values = [room.values_of(row[0]) for row in rows]
    return write_standing(room.many, room.rule_word(), room.mark(), rows, values)


def write_found(found):
    """Where a block comes to lie, and the holes that were passed over."""
    start = found[0]
    passed = write_stretches(found[1])
    return f"{start} | {passed}"


def answer_take(room, parts):
    """Take a block; where it lies, and the holes that were passed over."""
    # A look alone would refuse a size ahead of a name.
    need_new(room.shelf, parts[1], parts[2])
    found = room.look(parts[2])
    room.take(parts[1], parts[2])
    return write_found(found)


def answer_look(room, parts):
    """Where a block would come to lie, and the holes that would be passed over."""
    return write_found(room.look(parts[1]))


def answer_fit(room, parts):
    """Fit a block; where it lies, and what was slid for it."""
    layout = room.layout()
    start = room.fit(parts[1], parts[2]).block_start()
    # Where some hole was large enough, the plan has no slides.
    moves = write_moves(plan(layout, parts[2]).slides())
    return f"{start} | {moves}"


def answer_give(room, parts):
    """Give a block back."""
    room.give(parts[1])
    return "ok"


def answer_pin(room, parts):
    """Pin a block once more; the count of its pins."""
    return str(room.pin(parts[1]))


def answer_unpin(room, parts):
    """Pin a block once less; the count of its pins."""
    return str(room.unpin(parts[1]))


def answer_pins(room, parts):
    """The pins of a block."""
    return str(room.pin_count(parts[1]))


def answer_read(room, parts):
    """What lies in a cell of a block."""
    return str(room.read(parts[1], parts[2]))


def answer_write(room, parts):
    """Put a value into a cell of a block."""
    room.write(parts[1], parts[2], parts[3])
    return "ok"


def answer_cell(room, parts):
    """The room's cell in which a cell of a block lies."""
    return str(room.cell_of(parts[1], parts[2]))


def answer_values(room, parts):
    """What lies in all cells of a block."""
    return write_values(room.values_of(parts[1]))


def answer_blocks(room, parts):
    """The blocks."""
    return write_blocks(room.blocks())


def answer_holes(room, parts):
    """The holes by rising starts."""
    return write_stretches(room.holes())


def answer_order(room, parts):
    """The holes in the order of the rule."""
    return write_stretches(room.order())


def write_between_pins(stretch):
    """A stretch between pins, with a blank ahead."""
    first = stretch[0]
    behind = stretch[1]
    free = stretch[2]
    return f" {first}..{behind}:{free}"


def write_paper(paper):
    """A paper: the price, the slides and the hole, or the stretches between pins."""
    if not paper.brings():
        return "stuck" + "".join([write_between_pins(stretch) for stretch in paper.counted()])
    price = paper.price()
    moves = write_moves(paper.slides())
    hole = write_stretches([paper.hole()])
    return f"price {price} | {moves} | {hole}"


def answer_plan(room, parts):
    """The paper for a hole of a size."""
    return write_paper(room.plan_for(parts[1]))


def answer_room(room, parts):
    """Make room of a size; the paper."""
    return write_paper(room.make_room(parts[1]))


def answer_slide(room, parts):
    """Do moves; how many copies they had."""
    return str(room.slide(parts[1]))


def answer_pack(room, parts):
    """Slide all to one end; the moves that were done."""
    return write_moves(room.pack(parts[1]))


def answer_tidy(room, parts):
    """Leave as few holes as can be; the moves that were done."""
    return write_moves(room.tidy())


def write_fraction(worth):
    """A fraction as a word."""
    top = worth[0]
    bottom = worth[1]
    return f"{top}/{bottom}"


def answer_waste(room, parts):
    """The outer and the inner waste."""
    return " ".join([write_fraction(worth) for worth in waste_of(room)])


ANSWERS = {
    "show": answer_show, "take": answer_take, "fit": answer_fit, "give": answer_give, "pin": answer_pin,
    "unpin": answer_unpin, "pins": answer_pins, "read": answer_read, "write": answer_write, "cell": answer_cell,
    "values": answer_values, "blocks": answer_blocks, "holes": answer_holes, "order": answer_order,
    "look": answer_look, "plan": answer_plan, "room": answer_room, "waste": answer_waste, "slide": answer_slide,
    "pack": answer_pack, "tidy": answer_tidy,
}


def answer_in(room, parts):
    """Do in a room what a line tells, read as its parts; the text that is answered."""
    return ANSWERS[parts[0]](room, parts)
