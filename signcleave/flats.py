"""The rank of things, closed things, loops and bridges, families and parts."""
from signcleave.errors import BadThing
from signcleave.rings import rings


def rank_of(house, things):
    """The most of these things that a base has."""
    check_things(house, things)
    return _rank_by(house.bases(), things)


def closed(house, things):
    """The rising list of the least closed things that have all of these."""
    check_things(house, things)
    bases = house.bases()
    rank = _rank_by(bases, things)
    return [thing for thing in range(house.things()) if _rank_by(bases, [*things, thing]) == rank]


def loops(house):
    """The rising list of the things that are in no base."""
    bases = house.bases()
    return [thing for thing in range(house.things()) if _rank_by(bases, [thing]) == 0]


def bridges(house):
    """The rising list of the things that are in each base."""
    bases = house.bases()
    return [thing for thing in range(house.things()) if all([thing in base for base in bases])]


def families(house):
    """The list of all families, rising; loops are in none."""
    bases = house.bases()
    told = [thing for thing in range(house.things()) if _rank_by(bases, [thing]) == 1]
    groups = [[other for other in told if _rank_by(bases, [thing, other]) == 1] for thing in told]
    # Each family comes once for each of its things: told is the one of its least thing.
    return [group for thing, group in zip(told, groups) if group[0] == thing]


def parts(house):
    """The list of all parts, rising."""
    groups = [[thing] for thing in range(house.things())]
    for ring in rings(house):
        groups = _joined(groups, ring)
    return sorted(groups)


def check_things(house, things):
    """Refuses things that the house hasn't."""
    if any([not 0 <= thing < house.things() for thing in things]):
        raise BadThing(f"the things are the numbers from 0 to below {house.things()}")


def _rank_by(bases, things):
    return max([len([thing for thing in base if thing in things]) for base in bases])


def _joined(groups, ring):
    """The groups, those at which the ring has signs made one."""
    met = [group for group in groups if any([ring[thing] for thing in group])]
    apart = [group for group in groups if group not in met]
    return [*apart, sorted([thing for group in met for thing in group])]
