"""What several tests of races need: rows of asks by chance, and how a rule must go through them."""

from slideroom.halves import pieces_of


def some_asks(chance, many, sizes, names="abcdefghijklmnopqrstuvwxyz"):
    """A row of so many asks that is one."""
    asks = []
    out = []
    while len(asks) < many:
        name = chance.choice(names)
        if name in out:
            out.remove(name)
            asks.append(("give", name))
        elif len(out) < 40:
            out.append(name)
            asks.append(("take", name, chance.choice(sizes)))
    return asks


class Way:
    """A rule on its way through asks, told by the words of the document, cell by cell."""

    def __init__(self, word, many):
        self.word = word
        self.many = many
        self.lying = {}
        self.mark = 0

    def needed(self, size):
        if self.word != "halves":
            return size
        power = 1
        while power < size:
            power *= 2
        return power

    def holes(self):
        if self.word == "halves":
            return pieces_of(self.many, [(start, self.needed(size)) for start, size in self.lying.values()])
        cells = ["."] * self.many
        for start, size in self.lying.values():
            cells[start:start + size] = ["#"] * size
        return [
            (at, len("".join(cells[at:]).split("#")[0])) for at in range(self.many)
            if cells[at] == "." and (at == 0 or cells[at - 1] == "#")
        ]

    def order(self):
        holes = self.holes()
        if self.word in ["tightest", "halves"]:
            return sorted(holes, key=lambda hole: (hole[1], hole[0]))
        if self.word == "next":
            return sorted(holes, key=lambda hole: (hole[0] < self.mark, hole[0]))
        return holes

    def told(self, ask):
        """How it goes with one more ask."""
        if ask[0] == "give":
            if ask[1] not in self.lying:
                return ("past", 0, [])
            return ("back", self.lying.pop(ask[1])[0], [])
        order = self.order()
        for at, (start, size) in enumerate(order):
            if size >= self.needed(ask[2]):
                self.lying[ask[1]] = (start, ask[2])
                self.mark = start + ask[2]
                return ("at", start, order[:at])
        return ("none", max([size for _, size in order], default=0), order)
