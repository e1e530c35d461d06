"""From field to field of a house, over walls."""
from signcleave.errors import BadRow, Nothing, NoWall
from signcleave.flats import check_things, families, loops
from signcleave.rings import rings
from signcleave.rows import stands
from signcleave.signs import meet_square


class Walker:
    """Stands in a field and goes over walls."""

    def __init__(self, house, start):
        self._field = _checked_field(house, start)
        self._house = house
        self._gone = []

    def field(self):
        """The field in which the walker stands."""
        return self._field

    def walls(self):
        """The rising list of the families over which one can go."""
        return _passable(self._field, families(self._house), rings(self._house))

    def go(self, thing):
        """Goes over the wall that has the thing."""
        check_things(self._house, [thing])
        crossed = [family for family in self.walls() if thing in family]
        if len(crossed) == 0:
            raise NoWall(f"no wall here has thing {thing}")
        self._gone.append(crossed[0])
        self._field = _turned_at(self._field, crossed[0])

    def back(self):
        """Takes the last step back."""
        if len(self._gone) == 0:
            raise Nothing("no step stands")
        self._field = _turned_at(self._field, self._gone.pop())

    def twin(self):
        """A walker that stands alike, all steps made, and goes its own way."""
        other = Walker(self._house, self._field)
        other._gone = list(self._gone)
        return other

    def __len__(self):
        return len(self._gone)


def way(house, one, other):
    """The least things of the families to go over from one field to the other, as few as can be."""
    field, aim = _checked_field(house, one), _checked_field(house, other)
    groups, all_rings = families(house), rings(house)
    gone = []
    while field != aim:
        # Some wall always lies between two fields, so that no step need be taken back.
        between = [group for group in groups if field[group[0]] != aim[group[0]]]
        crossed = _passable(field, between, all_rings)[0]
        gone.append(crossed[0])
        field = _turned_at(field, crossed)
    return gone


def _checked_field(house, row):
    """The row as a tuple; refuses one that is no field."""
    if not stands(house, row):
        raise BadRow("a field is square to all rings")
    empty = loops(house)
    if any([(sign == 0) != (thing in empty) for thing, sign in enumerate(row)]):
        raise BadRow("a field is nought at loops alone")
    return tuple(row)


def _passable(field, groups, all_rings):
    """Those of the families over which one can go from the field."""
    return [group for group in groups if _all_square(_turned_at(field, group), all_rings)]


def _all_square(row, all_rings):
    return all([meet_square(row, ring) for ring in all_rings])


def _turned_at(field, group):
    return tuple([-sign if thing in group else sign for thing, sign in enumerate(field)])
