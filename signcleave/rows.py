"""Rows of signs that stand in a house, and its fields."""
from itertools import combinations

from signcleave.flats import loops, rank_of
from signcleave.rings import rings
from signcleave.signs import SIGNS, check_row, check_rows, first_sign, meet_square


def behind(one, other):
    """The first row's signs, and where these are nought the second one's."""
    check_rows(one, other)
    return tuple([first if first != 0 else second for first, second in zip(one, other)])


def is_below(one, other):
    """Whether each sign of the first row is nought or the second one's."""
    check_rows(one, other)
    return all([first in (0, second) for first, second in zip(one, other)])


def stands(house, row):
    """Whether a row of signs is square to all rings."""
    check_row(row, house.things())
    return all([meet_square(row, ring) for ring in rings(house)])


def all_rows(house):
    """The rising list of all rows that stand."""
    return _rows_of(house, [SIGNS] * house.things())


def fields(house):
    """The rising list of the rows that stand and are nought at loops alone."""
    empty = loops(house)
    return _rows_of(house, [(0,) if thing in empty else (-1, 1) for thing in range(house.things())])


def many_fields(house):
    """How many fields there are, told by ranks alone."""
    empty = loops(house)
    kept = [thing for thing in range(house.things()) if thing not in empty]
    total = 0
    for size in range(len(kept) + 1):
        for lot in combinations(kept, size):
            total += -1 if (size - rank_of(house, lot)) & 1 else 1
    return total


def _rows_of(house, choices):
    """The rising list of the rows that stand and have one of its choices at each thing."""
    # A ring and its opposite ask the same of a row.
    half = [ring for ring in rings(house) if first_sign(ring) == 1]
    found = [()]
    for thing, signs in enumerate(choices):
        # A ring without signs further on can be asked now, ahead of what comes behind.
        ending = [ring[:thing + 1] for ring in half if ring[thing] != 0 and not any(ring[thing + 1:])]
        longer = [(*row, sign) for row in found for sign in signs]
        found = [row for row in longer if all([meet_square(row, ring) for ring in ending])]
    return found
