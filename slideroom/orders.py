"""The orders in which rules look at their holes, and what they find in them."""


def by_start(holes):
    """The holes by rising starts."""
    return sorted(holes)


def by_size(holes):
    """The holes by rising sizes, those of one size by rising starts."""
    return sorted(holes, key=lambda hole: (hole[1], hole[0]))


def from_mark(holes, mark):
    """First the holes that start at the mark or behind it, then the others, both by rising starts."""
    rising = by_start(holes)
    return [hole for hole in rising if hole[0] >= mark] + [hole for hole in rising if hole[0] < mark]


def found_in(ordered, size):
    """The start of the first hole of a size or more and the list of those ahead of it, None where there is none."""
    passed = []
    for hole in ordered:
        if hole[1] >= size:
            return (hole[0], passed)
        passed.append(hole)
    return None
