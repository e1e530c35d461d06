"""Lots of things, and the signs of rows."""
from itertools import combinations

from signcleave.errors import BadCount, BadLot

MOST = 7


def lots(many, size):
    """The list of all lots of size things among many, in their order."""
    _check_many(many)
    if not 0 <= size <= many:
        raise BadCount(f"a lot of {many} things has 0 to {many} of them, not {size}")
    return list(combinations(range(many), int(size)))


def place_of(lot, many):
    """The place of a lot among the lots of its size of many things."""
    _check_many(many)
    # Of more things than there are no lots stand at all, and lots would refuse the size.
    if len(lot) > many:
        raise BadLot(f"{len(lot)} things are no lot of {many}")
    alike = lots(many, len(lot))
    wanted = tuple(lot)
    if wanted not in alike:
        raise BadLot(f"{wanted} is no lot of {many} things")
    return alike.index(wanted)


def order_sign(row):
    """The sign of a row of numbers: 0 where one stands twice, else 1 or -1."""
    sign = 1
    for at, number in enumerate(row):
        for later in row[at + 1:]:
            if later == number:
                return 0
            if later < number:
                sign = -sign
    return sign


def _check_many(many):
    if not 0 <= many <= MOST:
        raise BadCount(f"there are 0 to {MOST} things, not {many}")
