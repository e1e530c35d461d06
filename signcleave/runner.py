"""Runs from base to base of a house, from a bound to an aim."""
from signcleave.errors import NoStart, Nothing, Same
from signcleave.flats import bridges, check_things, loops
from signcleave.tableau import Tableau


class Runner:
    """A run: it changes its base step by step until it ends."""

    def __init__(self, house, *, bound=0, aim=1):
        _check_start(house, bound, aim)
        self._house = house
        self._bound = bound
        self._aim = aim
        starts = [base for base in house.bases() if bound in base and aim not in base]
        self._tableau = Tableau(house, starts[0])
        self._changes = []

    def base(self):
        """The base that stands."""
        return self._tableau.base()

    def point(self):
        """The bound's cut."""
        return self._tableau.cut(self._bound)

    def price(self):
        """The aim's ring."""
        return self._tableau.ring(self._aim)

    def wrong(self):
        """The least wrong thing, or None."""
        base, point, price = self.base(), self.point(), self.price()
        for thing in range(self._house.things()):
            row = price if thing in base else point
            if row[thing] == -1 and thing not in (self._bound, self._aim):
                return thing
        return None

    def verdict(self):
        """How the run ends here, or None where a step would make a change."""
        if self._coming_change() is not None:
            return None
        thing = self.wrong()
        if thing is None:
            return ("best", self.point(), self.price())
        if thing in self.base():
            return ("endless", self._tableau.cut(thing))
        return ("cant", self._tableau.ring(thing))

    def step(self):
        """Makes one change and tells it, (out, into), or tells None where the run ends."""
        change = self._coming_change()
        if change is not None:
            out, into = change
            self._tableau.change(out, into)
            self._changes.append(change)
        return change

    def run(self, *, most=None):
        """Makes so many changes at the most, or all to the end; tells how many it made."""
        made = 0
        while (most is None or made < most) and self.step() is not None:
            made += 1
        return made

    def back(self):
        """Takes the last change back and tells it."""
        if len(self._changes) == 0:
            raise Nothing("no change stands")
        out, into = self._changes.pop()
        self._tableau.change(into, out)
        return (out, into)

    def twin(self):
        """A runner that stands alike, all changes made, and goes its own way."""
        other = Runner(self._house, bound=self._bound, aim=self._aim)
        other._tableau = self._tableau.twin()
        other._changes = list(self._changes)
        return other

    def __len__(self):
        return len(self._changes)

    def _coming_change(self):
        """The pair (out, into) that a step would change, or None."""
        thing = self.wrong()
        if thing is None:
            return None
        base = self.base()
        if thing in base:
            cut = self._tableau.cut(thing)
            outside = [other for other in range(self._house.things()) if other not in base and other != self._aim]
            turning = [other for other in outside if cut[other] == -1]
            return (thing, turning[0]) if turning else None
        ring = self._tableau.ring(thing)
        turning = [other for other in base if other != self._bound and ring[other] == -1]
        return (turning[0], thing) if turning else None


def _check_start(house, bound, aim):
    check_things(house, [bound, aim])
    if bound == aim:
        raise Same(f"thing {bound} can't be bound and aim")
    if bound in loops(house):
        raise NoStart("loop")
    if aim in bridges(house):
        raise NoStart("bridge")
