"""All refusals of the program.

A CleaveError tells that what was handed in is no such thing; a HouseError
tells that what stands does not let what was asked.
"""


class CleaveError(ValueError):
    """What was handed in is not as it must be."""

    def __init__(self, text=""):
        super().__init__(text)
        self.word = self.__class__.__name__


class BadCount(CleaveError):
    """A count of things, a size or a rank is out of its bounds."""


class BadLot(CleaveError):
    """This is no lot of such things."""


class BadBox(CleaveError):
    """The rows make no box, or too great a one."""


class BadTable(CleaveError):
    """The signs of a table are too few, too many, or no signs."""


class NoHouse(CleaveError):
    """A table is no house; why is what judged tells of it."""

    def __init__(self, why):
        super().__init__(f"no house: {why}")
        self.why = why


class BadColumn(CleaveError):
    """The columns do not fit together."""


class Flat(CleaveError):
    """All signs of the columns are nought."""


class BadWeb(CleaveError):
    """The knots and arrows make no web."""


class BadThing(CleaveError):
    """There is no such thing."""


class BadOrder(CleaveError):
    """This is no order of all things."""


class BadRow(CleaveError):
    """A row has another length, other signs, or is not the kind that is wanted."""


class BadColours(CleaveError):
    """Colours have another length or other signs."""


class BadMark(CleaveError):
    """The marked thing has neither + nor -."""


class NoBase(CleaveError):
    """The lot is no base."""


class InBase(CleaveError):
    """The thing is in the base."""


class OutBase(CleaveError):
    """The thing is not in the base."""


class NoChange(CleaveError):
    """The change does not lead to a base."""


class Same(CleaveError):
    """The bound and the aim are one thing."""


class NoStart(CleaveError):
    """No run can begin; why is "loop" or "bridge"."""

    def __init__(self, why):
        super().__init__(f"no start: {why}")
        self.why = why


class BadText(CleaveError):
    """A text is no asking; at is the place of its first wrong word."""

    def __init__(self, at):
        super().__init__(f"no asking, word {at} is wrong")
        self.at = at


class BadAsking(CleaveError):
    """The tuple is no asking."""


class BadSteps(CleaveError):
    """The steps to lean by are none."""


class BadSigns(CleaveError):
    """The signs for the half cuts are too few, too many, or no signs."""


class NotLet(CleaveError):
    """The table that would come is no house; why is what judged tells of it."""

    def __init__(self, why):
        super().__init__(f"not let: {why}")
        self.why = why


class BadName(CleaveError):
    """This can be no name of a house."""


class BadRecipe(CleaveError):
    """The tuple is no recipe."""


class BadDeed(CleaveError):
    """The tuple is no deed."""


class BadPage(CleaveError):
    """A text is no page; row is the number of its first wrong row."""

    def __init__(self, row):
        super().__init__(f"no page, row {row} is wrong")
        self.row = row


class HouseError(LookupError):
    """What stands does not let what was asked."""

    def __init__(self, text=""):
        super().__init__(text)
        self.word = self.__class__.__name__


class Taken(HouseError):
    """The name is in use already."""


class NoName(HouseError):
    """No house is kept under this name."""

    def __init__(self, name):
        super().__init__(f"no house is called {name}")
        self.name = name


class NoMake(HouseError):
    """A recipe makes no house; kind is the word of the refusal met."""

    def __init__(self, kind):
        super().__init__(f"the recipe makes no house: {kind}")
        self.kind = kind


class Held(HouseError):
    """A change is barred; by is the name or the watch that could not go on."""

    def __init__(self, by):
        super().__init__(f"held by {by}")
        self.by = by


class Used(HouseError):
    """A house is in use; by is the name or the watch that uses it."""

    def __init__(self, by):
        super().__init__(f"used by {by}")
        self.by = by


class NoWatch(HouseError):
    """No watch stands under this number."""

    def __init__(self, number):
        super().__init__(f"no watch {number}")
        self.number = number


class Full(HouseError):
    """The book has no room for one more."""


class TooMany(HouseError):
    """The house would have too many things."""


class NoWall(HouseError):
    """No wall of this field has the thing."""


class Nothing(HouseError):
    """There is nothing to take back or to do again."""


class Stopped(HouseError):
    """One of several deeds is refused; at is its place, kind its refusal's word."""

    def __init__(self, at, kind):
        super().__init__(f"deed {at} is refused: {kind}")
        self.at = at
        self.kind = kind
