"""Houses of signs."""
from signcleave.errors import BadLot, NoHouse
from signcleave.signs import signs_text
from signcleave.tables import judged, sign_in, signs_by_lot


class House:
    """A table that is a house, with its told signs; nothing changes it."""

    def __init__(self, things, rank, signs):
        told = judged(things, rank, signs)
        if told[0] != "house":
            raise NoHouse(told)
        self._things = things
        self._rank = rank
        self._signs = told[1]
        self._by_lot = signs_by_lot(things, rank, self._signs)

    def things(self):
        """How many things there are."""
        return self._things

    def rank(self):
        """How many things each base has."""
        return self._rank

    def signs(self):
        """The signs of all lots of rank things, in the order of the lots."""
        return self._signs

    def sign(self, row):
        """The sign of a row of rank things in any order."""
        if len(row) != self._rank:
            raise BadLot(f"a row of {self._rank} things is wanted, not of {len(row)}")
        if any([not 0 <= thing < self._things for thing in row]):
            raise BadLot(f"the things are the numbers from 0 to below {self._things}")
        return sign_in(self._by_lot, row)

    def bases(self):
        """The list of all bases, rising."""
        return [lot for lot, sign in self._by_lot.items() if sign != 0]

    def __len__(self):
        return len(range(self._things))

    def __eq__(self, other):
        return (isinstance(other, House) and self._things == other._things and self._rank == other._rank
                and self._signs == other._signs)

    def __repr__(self):
        return f"House({self._things} things, rank {self._rank})"

    def __str__(self):
        return f"{self._things} {self._rank} {signs_text(self._signs)}"
