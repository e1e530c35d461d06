"""What a base tells: that a lot is one, and its rings and cuts of single things."""
from signcleave.errors import BadLot, NoBase
from signcleave.lots import place_of
from signcleave.rings import cut_row, ring_row
from signcleave.signs import opposite


def checked_base(house, lot):
    """The lot as a tuple; refuses one that is no base of the house."""
    if len(lot) != house.rank():
        raise BadLot(f"a lot of {house.rank()} things is wanted, not of {len(lot)}")
    if house.signs()[place_of(lot, house.things())] == 0:
        raise NoBase(f"{tuple(lot)} is no base")
    return tuple(lot)


def base_ring(house, base, thing):
    """The ring that has signs at the thing and at things of the base alone, 1 at the thing."""
    return _turned_to_one(ring_row(house, tuple(sorted([*base, thing]))), thing)


def base_cut(house, base, thing):
    """The cut that is nought at all other things of the base, 1 at the thing."""
    return _turned_to_one(cut_row(house, tuple([other for other in base if other != thing])), thing)


def _turned_to_one(row, thing):
    return row if row[thing] == 1 else opposite(row)
