"""A base of a house, its rings and cuts, and how it changes."""
from signcleave.bases import base_cut, base_ring, checked_base
from signcleave.errors import InBase, NoChange, OutBase
from signcleave.flats import check_things


class Tableau:
    """A base of a house; a change takes one thing out of it and another one in."""

    def __init__(self, house, base):
        self._base = checked_base(house, base)
        self._house = house

    def base(self):
        """The base that stands."""
        return self._base

    def ring(self, thing):
        """The ring of a thing that is not in the base."""
        check_things(self._house, [thing])
        self._check_outside(thing)
        return base_ring(self._house, self._base, thing)

    def cut(self, thing):
        """The cut of a thing of the base."""
        check_things(self._house, [thing])
        self._check_inside(thing)
        return base_cut(self._house, self._base, thing)

    def table(self):
        """A dict from each thing not in the base to the signs of its ring at the base's things."""
        outside = [thing for thing in range(self._house.things()) if thing not in self._base]
        return {thing: self._signs_at_base(self.ring(thing)) for thing in outside}

    def change(self, out, into):
        """Takes a thing out of the base and another one in."""
        check_things(self._house, [out, into])
        self._check_inside(out)
        self._check_outside(into)
        changed = tuple(sorted([into if thing == out else thing for thing in self._base]))
        if self._house.sign(changed) == 0:
            raise NoChange(f"{changed} is no base")
        self._base = changed

    def twin(self):
        """A tableau that stands alike and goes its own way."""
        return Tableau(self._house, self._base)

    def _signs_at_base(self, row):
        return tuple([row[thing] for thing in self._base])

    def _check_inside(self, thing):
        if thing not in self._base:
            raise OutBase(f"thing {thing} is not in the base")

    def _check_outside(self, thing):
        if thing in self._base:
            raise InBase(f"thing {thing} is in the base")
