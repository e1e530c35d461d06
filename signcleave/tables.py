"""Tables, which have a sign for each lot, and what makes a table a house."""
from itertools import combinations

from signcleave.errors import BadTable
from signcleave.lots import lots, order_sign
from signcleave.signs import are_signs, first_sign, opposite


def judged(things, rank, signs):
    """("house", the told signs), or the reason why the table is no house."""
    by_lot = signs_by_lot(things, rank, signs)
    bases = [lot for lot, sign in by_lot.items() if sign != 0]
    if not bases:
        return ("none",)
    fault = _exchange_fault(things, bases)
    if fault is None:
        fault = _three_fault(things, rank, by_lot)
    if fault is None:
        return ("house", _told(signs))
    return fault


def signs_by_lot(things, rank, signs):
    """A dict from each lot to its sign in the table."""
    all_lots = lots(things, rank)
    if len(signs) != len(all_lots):
        raise BadTable(f"a table for {things} things and rank {rank} has {len(all_lots)} signs, not {len(signs)}")
    if not are_signs(signs):
        raise BadTable("a table has the signs -1, 0 and 1 alone")
    return {lot: sign for lot, sign in zip(all_lots, signs)}


def sign_in(by_lot, row):
    """The sign that a table tells for a row of rank things in any order."""
    return order_sign(row) * by_lot.get(tuple(sorted(row)), 0)


def _told(signs):
    """The signs, turned where the first of them that isn't nought is -1."""
    return opposite(signs) if first_sign(signs) == -1 else tuple(signs)


def _exchange_fault(things, bases):
    """The reason why (b) doesn't hold, or None."""
    known = {base: True for base in bases}
    for one in bases:
        for thing in one:
            rest = [other for other in one if other != thing]
            into = [new for new in range(things) if new not in one and tuple(sorted([*rest, new])) in known]
            for other in bases:
                if thing not in other and not any([new in other for new in into]):
                    return ("exchange", one, other, thing)
    return None


def _three_fault(things, rank, by_lot):
    """The reason why (c) doesn't hold, or None."""
    if rank < 2:
        return None
    for lot in lots(things, rank - 2):
        rest = [thing for thing in range(things) if thing not in lot]
        for four in combinations(rest, 4):
            if not _three_hold(by_lot, lot, four):
                return ("three", lot, four)
    return None


def _three_hold(by_lot, lot, four):
    b, c, d, e = four
    pairs = ((b, c, d, e), (b, d, c, e), (b, e, c, d))
    first, second, third = [sign_in(by_lot, (*lot, *pair[:2])) * sign_in(by_lot, (*lot, *pair[2:])) for pair in pairs]
    products = (first, -second, third)
    return (1 in products) == (-1 in products)
