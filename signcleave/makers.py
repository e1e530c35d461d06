"""Houses made of columns of numbers, of webs, and those with all signs 1."""
from signcleave.boxes import box_sign
from signcleave.errors import BadColumn, BadWeb, Flat
from signcleave.house import House
from signcleave.lots import MOST, lots

MOST_KNOTS = 8


def of_columns(columns):
    """The house of columns: the sign of a lot is that of the box of its columns."""
    _check_columns(columns)
    many, rank = len(columns), len(columns[0])
    signs = [box_sign([columns[thing] for thing in lot]) for lot in lots(many, rank)]
    if not any(signs):
        raise Flat(f"no {rank} of these columns have a box of another worth than 0")
    return House(many, rank, signs)


def of_web(knots, arrows):
    """The house of a web: its rings are the ways round that have no knot twice."""
    _check_web(knots, arrows)
    if len(arrows) == 0:
        return House(0, 0, [1])
    counted = _counted_knots(knots, arrows)
    return of_columns([[int(knot == end) - int(knot == start) for knot in counted] for start, end in arrows])


def spread(things, rank):
    """The house with all signs 1."""
    return House(things, rank, [1 for _ in lots(things, rank)])


def _counted_knots(knots, arrows):
    """All knots but one of each part of the web: so many numbers do, and none is too many."""
    heads = list(range(knots))
    for start, end in arrows:
        kept, lost = heads[start], heads[end]
        heads = [kept if head == lost else head for head in heads]
    return [knot for knot in range(knots) if heads[knot] != knot]


def _check_columns(columns):
    if not 1 <= len(columns) <= MOST:
        raise BadColumn(f"there are 1 to {MOST} columns, not {len(columns)}")
    size = len(columns[0])
    if any([len(column) != size for column in columns]):
        raise BadColumn("the columns have unlike counts of numbers")
    if size > len(columns):
        raise BadColumn(f"columns of {size} numbers are more than {len(columns)}")


def _check_web(knots, arrows):
    if not 1 <= knots <= MOST_KNOTS:
        raise BadWeb(f"a web has 1 to {MOST_KNOTS} knots, not {knots}")
    if len(arrows) > MOST:
        raise BadWeb(f"a web has at most {MOST} arrows, not {len(arrows)}")
    for arrow in arrows:
        if len(arrow) != 2 or any([not 0 <= knot < knots for knot in arrow]):
            raise BadWeb(f"an arrow goes from one of {knots} knots to one of them")
