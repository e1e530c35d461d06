"""A plain way to tell what points 24 to 26 say of a book, and deeds to do on one."""
from signcleave.colours import ring_or_cut
from signcleave.errors import CleaveError, HouseError
from signcleave.growing import leaned
from signcleave.house import House
from signcleave.makers import of_columns, of_web
from signcleave.minors import beside, drawn, dual, moved, struck, turned

MAKERS = {
    "signs": (0, 3, House), "columns": (0, 1, of_columns), "web": (0, 2, of_web), "dual": (1, 1, dual),
    "struck": (1, 2, struck), "drawn": (1, 2, drawn), "turned": (1, 2, turned), "moved": (1, 2, moved),
    "beside": (2, 2, beside), "leaned": (1, 2, leaned),
}
HANDED = {"keep": 2, "change": 2, "drop": 1, "watch": 3, "leave": 1, "several": 1}


class Refused(Exception):

    def __init__(self, word, **fields):
        super().__init__(word, fields)
        self.word = word
        self.fields = fields


def frozen(worth):
    return tuple(frozen(part) for part in worth) if isinstance(worth, (list, tuple)) else worth


def used_by(recipe):
    return list(recipe[1:1 + MAKERS[recipe[0]][0]])


def make(recipe, houses):
    names, _, maker = MAKERS[recipe[0]]
    return maker(*[houses[name] for name in recipe[1:1 + names]], *recipe[1 + names:])


class PlainBook:
    """What stands, and lists of what stood ahead of each deed and behind those taken back."""

    def __init__(self):
        self.kept = []
        self.watching = {}
        self.next = 1
        self.ahead = []
        self.behind = []

    def state(self):
        return (list(self.kept), dict(self.watching), self.next)

    def put(self, state):
        self.kept, self.watching, self.next = list(state[0]), dict(state[1]), state[2]

    def names(self):
        return [name for name, _ in self.kept]

    def houses(self, kept=None):
        """All houses, made anew one by one; where one can't be made its name is told by the refusal."""
        found = {}
        for name, recipe in self.kept if kept is None else kept:
            try:
                found[name] = make(recipe, found)
            except (CleaveError, HouseError) as error:
                raise Refused("NoMake", kind=error.word, at=name) from None
        return found

    def do(self, deed):
        before = self.state()
        try:
            told = self.one(deed)
        except Refused:
            self.put(before)
            raise
        self.ahead.append(before)
        self.behind = []
        return told

    def trial(self, deeds):
        before = self.state()
        try:
            return self.all_of(deeds)
        finally:
            self.put(before)

    def undo(self):
        if not self.ahead:
            raise Refused("Nothing")
        self.behind.append(self.state())
        self.put(self.ahead.pop())

    def redo(self):
        if not self.behind:
            raise Refused("Nothing")
        self.ahead.append(self.state())
        self.put(self.behind.pop())

    def one(self, deed):
        if not deed or deed[0] not in HANDED or len(deed) != HANDED[deed[0]] + 1:
            raise Refused("BadDeed")
        if deed[0] == "several":
            return self.all_of(deed[1])
        return getattr(self, deed[0])(*deed[1:])

    def all_of(self, deeds):
        told = []
        for at, deed in enumerate(deeds):
            try:
                told.append(self.one(deed))
            except Refused as refused:
                raise Refused("Stopped", at=at, kind=refused.word) from None
        return told

    def right_recipe(self, recipe):
        if not recipe or recipe[0] not in MAKERS or len(recipe) != MAKERS[recipe[0]][1] + 1:
            raise Refused("BadRecipe")
        return frozen(recipe)

    def find(self, names, known):
        for name in names:
            if name not in known:
                raise Refused("NoName", name=name)

    def made(self, recipe):
        try:
            return make(recipe, self.houses())
        except (CleaveError, HouseError) as error:
            raise Refused("NoMake", kind=error.word) from None

    def keep(self, name, recipe):
        if not 1 <= len(name) <= 8 or set(name) - set("abcdefghijklmnopqrstuvwxyz"):
            raise Refused("BadName")
        if name in self.names():
            raise Refused("Taken")
        recipe = self.right_recipe(recipe)
        self.find(used_by(recipe), self.names())
        self.made(recipe)
        if len(self.kept) == 8:
            raise Refused("Full")
        self.kept.append((name, recipe))

    def change(self, name, recipe):
        self.find([name], self.names())
        recipe = self.right_recipe(recipe)
        place = self.names().index(name)
        self.find(used_by(recipe), self.names()[:place])
        self.made(recipe)
        kept = [*self.kept[:place], (name, recipe), *self.kept[place + 1:]]
        try:
            houses = self.houses(kept)
        except Refused as refused:
            raise Refused("Held", by=refused.fields["at"]) from None
        for number in sorted(self.watching):
            watched, colours, mark = self.watching[number]
            try:
                ring_or_cut(houses[watched], colours, mark)
            except CleaveError:
                raise Refused("Held", by=number) from None
        self.kept = kept

    def drop(self, name):
        self.find([name], self.names())
        users = [other for other, recipe in self.kept if name in used_by(recipe)]
        users += [number for number in sorted(self.watching) if self.watching[number][0] == name]
        if users:
            raise Refused("Used", by=users[0])
        self.kept = [pair for pair in self.kept if pair[0] != name]

    def watch(self, name, colours, mark):
        self.find([name], self.names())
        try:
            ring_or_cut(self.houses()[name], colours, mark)
        except CleaveError as error:
            raise Refused(error.word) from None
        if len(self.watching) == 6:
            raise Refused("Full")
        self.watching[self.next] = (name, colours, mark)
        self.next += 1
        return self.next - 1

    def leave(self, number):
        if number not in self.watching:
            raise Refused("NoWatch", number=number)
        del self.watching[number]


NAMES = ["a", "b", "c", "web", "house", "longname", "z"]
STARTS = [
    ("signs", 3, 2, (1, 1, 1)), ("signs", 2, 1, (-1, 1)), ("signs", 0, 0, (1,)), ("signs", 3, 1, (0, -1, 1)),
    ("columns", ((1, 0), (0, 1), (1, 1), (0, 0))), ("columns", ((1, 2, 0), (-3, 0, 1), (0, 0, 7), (1, -1, 1))),
    ("columns", ((), ())), ("columns", ((-999999999,), (999999999,))), ("web", 3, ((0, 1), (1, 2), (2, 0))),
    ("web", 1, ()), ("web", 4, ((0, 1), (0, 2), (0, 3), (1, 2), (1, 3), (2, 3))), ("web", 8, ((7, 7), (0, 7))),
]
BAD_STARTS = [
    (), ("signs", 3, 2), ("house", 3), ("dual",), ("web", 3), ("columns",), ("leaned", "a"), ("dual", "a", 1),
    ("signs", 3, 2, (0, 0, 0)), ("signs", 8, 1, (1,)), ("signs", 3, 2, (1, 1)), ("columns", ()), ("columns", ((1, 2),)),
    ("columns", ((0,), (0,))), ("web", 0, ()), ("web", 2, ((0, 2),)), ("signs", 4, 2, (1, -1, 1, 1, 1, 1)),
]


def recipe_by_chance(chance, names):
    """A recipe, most often a good one where the names are kept."""
    if chance.random() < 0.3:
        return chance.choice(STARTS)
    if chance.random() < 0.1:
        return chance.choice(BAD_STARTS)
    name, some = chance.choice(names), chance.sample(range(4), chance.randint(0, 3))
    return chance.choice([
        ("dual", name), ("struck", name, chance.randint(0, 3)), ("drawn", name, chance.randint(0, 3)),
        ("turned", name, tuple(some)), ("moved", name, tuple(chance.sample(range(3), 3))),
        ("beside", name, chance.choice(names)), ("leaned", name, tuple((thing, chance.choice((1, -1))) for thing in some)),
    ])


def deed_by_chance(chance, book, depth=0):
    """A deed for what a PlainBook holds; most often one that could be done."""
    kept = book.names()
    names = kept * 6 + NAMES
    word = chance.choice(["keep"] * 5 + ["change"] * 3 + ["drop", "watch", "watch", "watch", "leave"] + ["several"] * 2)
    if word in ("keep", "change"):
        name = chance.choice(NAMES * 4 + ["", "A", "toolongname"] if word == "keep" else names)
        return (word, name, recipe_by_chance(chance, names))
    if word == "drop":
        return (word, chance.choice(names))
    if word == "leave":
        return (word, chance.choice([*book.watching] * 4 + [0, book.next, 99]))
    if word == "watch":
        name = chance.choice(names)
        many = book.houses()[name].things() if name in kept and chance.random() < 0.9 else 3
        colours = "".join(chance.choice("++--*0") for _ in range(many))
        return (word, name, colours, chance.randint(0, max(0, many - 1)))
    if chance.random() < 0.15:
        return chance.choice([(), ("keep", "a"), ("drop",), ("undo",), ("watch", "a", "+++"), ("several", (), ())])
    if depth > 2:
        return ("several", ())
    return ("several", tuple(deed_by_chance(chance, book, depth + 1) for _ in range(chance.choice((0, 1, 1, 2, 3)))))
