"""Houses made of others: the dual, struck, drawn away, turned, moved, beside."""
from signcleave.errors import BadOrder, TooMany
from signcleave.flats import bridges, check_things, loops
from signcleave.house import House
from signcleave.lots import MOST, lots, order_sign


def dual(house):
    """The house whose rings are the cuts and whose cuts the rings."""
    many, rank = house.things(), house.things() - house.rank()
    return House(many, rank, [_dual_sign(house, lot) for lot in lots(many, rank)])


def struck(house, thing):
    """The house without the thing; its rings are those that are nought there."""
    check_things(house, [thing])
    return _drawn_off(house, thing) if thing in bridges(house) else _left_out(house, thing)


def drawn(house, thing):
    """The house without the thing; its cuts are those that are nought there."""
    check_things(house, [thing])
    return _left_out(house, thing) if thing in loops(house) else _drawn_off(house, thing)


def turned(house, things):
    """The house with the signs at these things turned, once for each time."""
    check_things(house, things)
    odd = [thing for thing in range(house.things()) if things.count(thing) & 1]
    return House(house.things(), house.rank(), [_turned_sign(house, lot, odd) for lot in _lots_of(house)])


def moved(house, order):
    """The house whose thing i is the thing order[i] of this one."""
    if sorted(order) != list(range(house.things())):
        raise BadOrder(f"an order has each of {house.things()} things once")
    signs = [house.sign([order[thing] for thing in lot]) for lot in _lots_of(house)]
    return House(house.things(), house.rank(), signs)


def beside(one, other):
    """One house beside another, whose things come behind."""
    many, rank = one.things() + other.things(), one.rank() + other.rank()
    if many > MOST:
        raise TooMany(f"a house has at most {MOST} things, not {many}")
    return House(many, rank, [_sign_beside(one, other, lot) for lot in lots(many, rank)])


def _lots_of(house):
    return lots(house.things(), house.rank())


def _dual_sign(house, lot):
    others = tuple([thing for thing in range(house.things()) if thing not in lot])
    return house.sign(others) * order_sign(lot + others)


def _left_out(house, gone):
    """Struck of a thing that is no bridge."""
    many = house.things() - 1
    signs = [house.sign(_old_things(lot, gone)) for lot in lots(many, house.rank())]
    return House(many, house.rank(), signs)


def _drawn_off(house, gone):
    """Drawn away of a thing that is no loop."""
    many, rank = house.things() - 1, house.rank() - 1
    signs = [house.sign((*_old_things(lot, gone), gone)) for lot in lots(many, rank)]
    return House(many, rank, signs)


def _old_things(lot, gone):
    """The things as they were counted with the one that is gone."""
    return tuple([thing if thing < gone else thing + 1 for thing in lot])


def _turned_sign(house, lot, odd):
    turns = len([thing for thing in lot if thing in odd])
    return -house.sign(lot) if turns & 1 else house.sign(lot)


def _sign_beside(one, other, lot):
    first = [thing for thing in lot if thing < one.things()]
    if len(first) != one.rank():
        return 0
    second = [thing - one.things() for thing in lot if thing >= one.things()]
    return one.sign(first) * other.sign(second)
