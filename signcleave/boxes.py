"""Boxes of numbers and their worth."""
from signcleave.errors import BadBox
from signcleave.lots import MOST, lots


def box(rows):
    """The worth of a box, a whole number."""
    _check_box(rows)
    many = len(rows)
    # The worths of the upper rows within each lot of as many columns: going row by
    # row, they are far fewer than the ways to take one number of each row.
    worths = {(): 1}
    for size, row in enumerate(rows, start=1):
        worths = {lot: _next_worth(row, lot, worths) for lot in lots(many, size)}
    return worths[tuple(range(many))]


def box_sign(rows):
    """The sign of the worth of a box."""
    worth = box(rows)
    if worth == 0:
        return 0
    return 1 if worth > 0 else -1


def _next_worth(row, lot, worths):
    """The worth within the columns of lot, where row comes below the rows of worths."""
    total = 0
    # A greater column taken above stands ahead of this one: one fewer at each step.
    sign = 1 if len(lot) & 1 else -1
    for at, column in enumerate(lot):
        rest = lot[:at] + lot[at + 1:]
        total += sign * row[column] * worths[rest]
        sign = -sign
    return total


def _check_box(rows):
    many = len(rows)
    if many > MOST:
        raise BadBox(f"a box has at most {MOST} rows, not {many}")
    if any([len(row) != many for row in rows]):
        raise BadBox(f"each of {many} rows must have {many} numbers")
