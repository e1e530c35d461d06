"""Houses that the tests go over, and plain ways to tell what the document says of them."""
from itertools import combinations, permutations, product
from random import Random

from signcleave.house import House
from signcleave.makers import of_columns, of_web, spread

MARKS = {"-": -1, "0": 0, "+": 1}


def signs_of(text):
    return tuple(MARKS[mark] for mark in text)


def lots_of(many, size):
    """All lots in the order of tuples."""
    masks = [mask for mask in range(2 ** many) if mask.bit_count() == size]
    return sorted(tuple(thing for thing in range(many) if mask >> thing & 1) for mask in masks)


def row_sign(row):
    """The sign of a row of things, as point 3 words it."""
    if len(set(row)) < len(row):
        return 0
    pairs = sum(row[at] > row[behind] for behind in range(len(row)) for at in range(behind))
    return 1 if pairs % 2 == 0 else -1


def read(table, row):
    """What a table, a dict from lots to signs, tells for a row, as point 5 words it."""
    return row_sign(row) * table.get(tuple(sorted(row)), 0)


def table_of(things, rank, signs):
    return dict(zip(combinations(range(things), rank), signs, strict=True))


def bases_in(table):
    return [lot for lot in table if table[lot] != 0]


def can_exchange(table, things, one, other, thing):
    """Whether some thing of the other base, not in the first, may come for the thing."""
    for new in set(other) - set(one):
        row = tuple(sorted((set(one) - {thing}) | {new}))
        if table[row] != 0:
            return True
    return False


def three_products(table, lot, four):
    b, c, d, e = four
    return [
        read(table, (*lot, b, c)) * read(table, (*lot, d, e)),
        -read(table, (*lot, b, d)) * read(table, (*lot, c, e)),
        read(table, (*lot, b, e)) * read(table, (*lot, c, d)),
    ]


def three_hold(table, lot, four):
    told = set(three_products(table, lot, four))
    return told == {0} or {1, -1} <= told


def holds_a(things, rank, signs):
    return any(sign != 0 for sign in signs)


def holds_b(things, rank, signs):
    table = table_of(things, rank, signs)
    return all(
        can_exchange(table, things, one, other, thing)
        for one in bases_in(table) for other in bases_in(table) for thing in set(one) - set(other)
    )


def holds_c(things, rank, signs):
    if rank < 2:
        return True
    table = table_of(things, rank, signs)
    return all(
        three_hold(table, lot, four)
        for lot in combinations(range(things), rank - 2)
        for four in combinations([thing for thing in range(things) if thing not in lot], 4)
    )


def is_house(things, rank, signs):
    return holds_a(things, rank, signs) and holds_b(things, rank, signs) and holds_c(things, rank, signs)


def told_signs(signs):
    """The signs that are told by point 6."""
    for sign in signs:
        if sign != 0:
            return tuple(sign * other for other in signs)
    raise AssertionError("all signs are nought")


def reason_holds(things, rank, signs, why):
    """Whether why, told of a table, is true of it."""
    table = table_of(things, rank, signs)
    if why[0] == "none":
        return why == ("none",) and not any(signs)
    if why[0] == "exchange":
        _, one, other, thing = why
        return (
            type(one) is tuple and type(other) is tuple and type(thing) is int
            and table.get(one, 0) != 0 and table.get(other, 0) != 0
            and thing in one and thing not in other and not can_exchange(table, things, one, other, thing)
        )
    if why[0] == "three":
        _, lot, four = why
        return (
            type(lot) is tuple and type(four) is tuple and lot in lots_of(things, rank - 2)
            and four in lots_of(things, 4) and not set(lot) & set(four) and not three_hold(table, lot, four)
        )
    return False


def turn(row):
    return tuple(-sign for sign in row)


def support(row):
    return {thing for thing, sign in enumerate(row) if sign != 0}


def square(one, other):
    """Whether two rows are square, as point 8 words it."""
    both = [thing for thing in range(len(one)) if one[thing] != 0 and other[thing] != 0]
    if not both:
        return True
    return any(one[thing] == other[thing] for thing in both) and any(one[thing] != other[thing] for thing in both)


def rows_of_signs(many):
    """All rows of so many signs, rising."""
    return list(product((-1, 0, 1), repeat=many))


def both_ways(rows):
    rows = [row for row in rows if any(row)]
    return sorted(set(rows) | {turn(row) for row in rows})


def ring_rows(things, rank, signs):
    """The rings, as point 7 words it, by the table."""
    table = table_of(things, rank, signs)
    rows = []
    for lot in combinations(range(things), rank + 1):
        row = [0] * things
        for at in range(rank + 1):
            sign = table[tuple(thing for thing in lot if thing != lot[at])]
            row[lot[at]] = -sign if at % 2 else sign
        rows.append(tuple(row))
    return both_ways(rows)


def cut_rows(things, rank, signs):
    """The cuts, as point 7 words it, by the table."""
    if rank == 0:
        return []
    table = table_of(things, rank, signs)
    lots = combinations(range(things), rank - 1)
    return both_ways([tuple(read(table, (*lot, thing)) for thing in range(things)) for lot in lots])


def rings_of(house):
    return ring_rows(house.things(), house.rank(), house.signs())


def cuts_of(house):
    return cut_rows(house.things(), house.rank(), house.signs())


def rank_in(house, things):
    """The rank of some things, as point 9 words it."""
    return max(len(set(base) & set(things)) for base in house.bases())


def worth(rows):
    """The worth of a box, as point 4 words it."""
    total = 0
    for columns in permutations(range(len(rows))):
        part = row_sign(columns)
        for row, column in zip(rows, columns):
            part *= row[column]
        total += part
    return total


def sign_of(number):
    return (number > 0) - (number < 0)


def some_columns(many, rank, bound, chance):
    return [[chance.randint(-bound, bound) for _ in range(rank)] for _ in range(many)]


def column_signs(columns):
    """The signs of the lots of some columns."""
    rank = len(columns[0])
    return [sign_of(worth([columns[thing] for thing in lot])) for lot in combinations(range(len(columns)), rank)]


WEBS = {
    "one knot": (1, []),
    "no arrows": (8, []),
    "a loop": (1, [(0, 0)]),
    "seven loops": (2, [(1, 1)] * 7),
    "one arrow": (2, [(0, 1)]),
    "there and back": (2, [(0, 1), (1, 0)]),
    "twice there": (2, [(0, 1), (0, 1)]),
    "three round": (3, [(0, 1), (1, 2), (2, 0)]),
    "three, one against": (3, [(0, 1), (1, 2), (0, 2)]),
    "four round with a way across": (4, [(0, 1), (1, 2), (2, 3), (3, 0), (0, 2)]),
    "each to each": (4, [(0, 1), (0, 2), (0, 3), (1, 2), (1, 3), (2, 3)]),
    "each to each and a loop": (4, [(1, 0), (0, 2), (2, 2), (0, 3), (2, 1), (1, 3), (2, 3)]),
    "two rounds and a bridge": (6, [(0, 1), (1, 2), (2, 0), (2, 3), (3, 4), (4, 5), (5, 3)]),
    "apart": (7, [(0, 1), (1, 0), (3, 4), (5, 4), (3, 5), (6, 6)]),
    "a line": (8, [(at, at + 1) for at in range(7)]),
    "a fat line": (4, [(0, 1), (1, 0), (1, 2), (2, 1), (1, 2), (2, 3), (3, 2)]),
    "seven between two": (2, [(0, 1), (1, 0), (0, 1), (0, 1), (1, 0), (1, 0), (0, 1)]),
}


def table_houses():
    """All houses of four things and rank two, of three things, and fewer."""
    found = {}
    for things, rank in [(0, 0), (1, 0), (1, 1), (2, 0), (2, 1), (2, 2), (3, 1), (3, 2), (4, 2)]:
        for signs in product((-1, 0, 1), repeat=len(lots_of(things, rank))):
            if is_house(things, rank, signs) and signs == told_signs(signs):
                found[f"table {things} {rank} {signs}"] = House(things, rank, signs)
    return found


def column_houses():
    """Houses of columns, some of them alike or nought."""
    chance = Random(61)
    found = {}
    for many, rank, bound in [
        (1, 1, 1), (3, 2, 1), (4, 3, 1), (5, 2, 1), (5, 3, 1), (5, 3, 9), (5, 4, 1), (6, 2, 3), (6, 3, 1), (6, 3, 9),
        (6, 4, 1), (6, 5, 2), (7, 2, 1), (7, 3, 1), (7, 3, 2), (7, 4, 1), (7, 4, 9), (7, 5, 1), (7, 6, 2),
    ]:
        for _ in range(2):
            columns = some_columns(many, rank, bound, chance)
            if any(column_signs(columns)):
                found[f"columns {columns}"] = of_columns(columns)
    found["alike, against and nought"] = of_columns([[1, 2], [0, 0], [1, 2], [-2, -4], [3, 1], [0, 0], [1, 0]])
    found["loops and bridges"] = of_columns([[1, 0, 0], [0, 0, 0], [0, 1, 0], [0, 1, 0], [0, 0, 5]])
    return found


def spread_houses():
    found = {}
    for many in range(8):
        for rank in {0, 1, many // 2, many // 2 + 1, many}:
            if rank <= many:
                found[f"spread {many} {rank}"] = spread(many, rank)
    return found


def web_houses():
    return {f"web {name}": of_web(*web) for name, web in WEBS.items()}


def few_houses():
    """Houses of any kind, for tests that take long of each."""
    return {**spread_houses(), **web_houses(), **column_houses()}


def all_houses():
    return {**few_houses(), **table_houses()}
