"""Houses with one thing more, and bases flipped."""
from signcleave.bases import checked_base
from signcleave.errors import BadSigns, BadSteps, NoHouse, NotLet, TooMany
from signcleave.house import House
from signcleave.lots import MOST, lots
from signcleave.rings import cut_row, half_cuts
from signcleave.signs import are_signs, opposite
from signcleave.tables import judged


def leaned(house, steps):
    """The house grown by the first step at whose thing a half cut isn't nought."""
    _check_steps(house, steps)
    _check_room(house)
    return _with_thing(house, [_leaned_sign(cut, steps) for cut in half_cuts(house)])


def grown(house, signs):
    """The house with one thing more, by a sign for each half cut."""
    _check_room(house)
    many = len(half_cuts(house))
    if len(signs) != many:
        raise BadSigns(f"there are {many} half cuts, and signs for {len(signs)}")
    if not are_signs(signs):
        raise BadSigns("the signs are -1, 0 and 1 alone")
    try:
        return _with_thing(house, signs)
    except NoHouse as refusal:
        raise NotLet(refusal.why)


def flippable(house):
    """The rising list of the bases that may be flipped."""
    return [base for base in house.bases() if _judged_flipped(house, base)[0] == "house"]


def flipped(house, lot):
    """The house with the sign of one base turned."""
    base = checked_base(house, lot)
    told = _judged_flipped(house, base)
    if told[0] != "house":
        raise NotLet(told)
    return House(house.things(), house.rank(), told[1])


def _leaned_sign(cut, steps):
    for thing, sign in steps:
        if cut[thing] != 0:
            return sign * cut[thing]
    return 0


def _with_thing(house, signs):
    """The house of the grown table; refuses with NoHouse one that makes none."""
    many, rank = house.things() + 1, house.rank()
    told = {cut: sign for cut, sign in zip(half_cuts(house), signs)}
    return House(many, rank, [_grown_sign(house, lot, told) for lot in lots(many, rank)])


def _grown_sign(house, lot, told):
    if house.things() not in lot:
        return house.sign(lot)
    row = cut_row(house, lot[:-1])
    # Of a row and its opposite at most one is a half cut; nought everywhere neither is.
    return told.get(row, -told.get(opposite(row), 0))


def _judged_flipped(house, base):
    """What is judged of the table with the base's sign alone turned."""
    all_lots = lots(house.things(), house.rank())
    signs = [-sign if lot == base else sign for lot, sign in zip(all_lots, house.signs())]
    return judged(house.things(), house.rank(), signs)


def _check_room(house):
    if house.things() >= MOST:
        raise TooMany(f"a house has at most {MOST} things")


def _check_steps(house, steps):
    if any([len(step) != 2 or step[1] not in (-1, 1) for step in steps]):
        raise BadSteps("a step has a thing and one of the signs -1 and 1")
    things = [step[0] for step in steps]
    if any([not 0 <= thing < house.things() for thing in things]) or len(set(things)) != len(things):
        raise BadSteps(f"the things of steps are unlike numbers from 0 to below {house.things()}")
