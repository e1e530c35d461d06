"""Rows of signs: what every part of the program asks of them."""
from signcleave.errors import BadRow

SIGNS = (-1, 0, 1)
MARKS = "-0+"


def are_signs(row):
    """Whether each thing of a row is a sign."""
    return all([sign in SIGNS for sign in row])


def first_sign(row):
    """The first sign of a row that isn't nought, 0 where there is none."""
    for sign in row:
        if sign != 0:
            return sign
    return 0


def opposite(row):
    """The row with all signs turned."""
    return tuple([-sign for sign in row])


def meet_square(one, other):
    """Whether two rows of one length are square."""
    products = [first * second for first, second in zip(one, other)]
    return (1 in products) == (-1 in products)


def signs_text(row):
    """A row of signs, written with - and 0 and +."""
    return "".join([MARKS[sign + 1] for sign in row])


def check_row(row, many):
    """Refuses a row that hasn't a sign for each of many things."""
    if len(row) != many:
        raise BadRow(f"a row of {many} signs is wanted, not of {len(row)}")
    if not are_signs(row):
        raise BadRow("a row has the signs -1, 0 and 1 alone")


def check_rows(one, other):
    """Refuses two rows that are no rows of signs of one length."""
    check_row(one, len(one))
    check_row(other, len(one))
