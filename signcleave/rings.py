"""Rings and cuts of a house, and rows that are square."""
from signcleave.lots import lots
from signcleave.signs import check_rows, first_sign, meet_square, opposite


def rings(house):
    """The rising list of all rings."""
    many, size = house.things(), house.rank() + 1
    if size > many:
        return []
    return _both_ways([ring_row(house, lot) for lot in lots(many, size)])


def cuts(house):
    """The rising list of all cuts."""
    if house.rank() == 0:
        return []
    return _both_ways([cut_row(house, lot) for lot in lots(house.things(), house.rank() - 1)])


def half_cuts(house):
    """The rising list of the cuts whose first sign that isn't nought is 1."""
    return [cut for cut in cuts(house) if first_sign(cut) == 1]


def are_square(one, other):
    """Whether two rows of signs are square."""
    check_rows(one, other)
    return meet_square(one, other)


def ring_row(house, lot):
    """The row of a lot of rank and one more things."""
    row = [0] * house.things()
    for at, thing in enumerate(lot):
        sign = house.sign(lot[:at] + lot[at + 1:])
        row[thing] = -sign if at & 1 else sign
    return tuple(row)


def cut_row(house, lot):
    """The row of a lot of rank less one things."""
    return tuple([house.sign((*lot, thing)) for thing in range(house.things())])


def _both_ways(rows):
    """The rows that aren't all nought and their opposites, rising, each once."""
    both = [*rows, *[opposite(row) for row in rows]]
    return sorted({row for row in both if any(row)})
