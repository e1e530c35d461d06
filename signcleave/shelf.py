"""What a book holds at one time: its houses and its watches."""
from signcleave.colours import ring_or_cut
from signcleave.errors import BadName, CleaveError, Full, Held, NoMake, NoName, NoWatch, Taken, Used
from signcleave.recipes import checked_recipe, made, names_used

LETTERS = "abcdefghijklmnopqrstuvwxyz"
LONGEST = 8


class Shelf:
    """Houses under names, by keeping, and watches by number."""

    def __init__(self, most_names, most_watches):
        self._most_names = most_names
        self._most_watches = most_watches
        self._recipes = {}
        self._houses = {}
        self._watches = {}
        self._coming = 1

    def twin(self):
        """A shelf that holds the same and goes its own way."""
        other = Shelf(self._most_names, self._most_watches)
        other._recipes = dict(self._recipes)
        other._houses = dict(self._houses)
        other._watches = dict(self._watches)
        other._coming = self._coming
        return other

    def all_told(self):
        """All that makes two books equal or not."""
        return (list(self._recipes.items()), list(self._watches.items()), self._coming)

    def names(self):
        """The names, by keeping."""
        return list(self._recipes)

    def recipe(self, name):
        """The recipe under a name."""
        self._check_name(name)
        return self._recipes[name]

    def house(self, name):
        """The house under a name."""
        self._check_name(name)
        return self._houses[name]

    def watches(self):
        """The watches as (number, name, colours, mark), rising."""
        return [(number, *watch) for number, watch in self._watches.items()]

    def told(self, number):
        """What a watch tells."""
        self._check_watch(number)
        return _seen(self._watches[number], self._houses)

    def coming(self):
        """The next number of a watch."""
        return self._coming

    def keep(self, name, recipe):
        """Keeps one house more."""
        if not 1 <= len(name) <= LONGEST or any([letter not in LETTERS for letter in name]):
            raise BadName(f"a name has 1 to {LONGEST} small letters")
        if name in self._recipes:
            raise Taken(f"the name {name} is in use")
        kept = checked_recipe(recipe)
        _check_used(kept, self.names())
        house = made(kept, self._houses)
        if len(self._recipes) >= self._most_names:
            raise Full(f"a book keeps at most {self._most_names} houses")
        self._recipes[name] = kept
        self._houses[name] = house

    def change(self, name, recipe):
        """Gives a name another recipe; what leans on it is made anew."""
        self._check_name(name)
        changed = checked_recipe(recipe)
        names = self.names()
        _check_used(changed, names[:names.index(name)])
        recipes = {**self._recipes, name: changed}
        houses = _made_anew(name, recipes, self._houses)
        self._check_watches_hold(houses)
        self._recipes = recipes
        self._houses = houses

    def drop(self, name):
        """Keeps a house no longer."""
        self._check_name(name)
        users = [user for user, recipe in self._recipes.items() if name in names_used(recipe)]
        users += [number for number, watch in self._watches.items() if watch[0] == name]
        if users:
            raise Used(users[0])
        del self._recipes[name]
        del self._houses[name]

    def add_watch(self, name, colours, mark):
        """Sets a watch on a house and tells its number."""
        self._check_name(name)
        watch = (name, colours, mark)
        _seen(watch, self._houses)
        if len(self._watches) >= self._most_watches:
            raise Full(f"at most {self._most_watches} watches stand")
        number = self._coming
        self._watches[number] = watch
        self._coming = number + 1
        return number

    def leave(self, number):
        """Takes a watch away."""
        self._check_watch(number)
        del self._watches[number]

    def skip_to(self, number):
        """Gives none of the numbers below this one any more."""
        self._coming = number

    def _check_name(self, name):
        if name not in self._recipes:
            raise NoName(name)

    def _check_watch(self, number):
        if number not in self._watches:
            raise NoWatch(number)

    def _check_watches_hold(self, houses):
        for number, watch in self._watches.items():
            try:
                _seen(watch, houses)
            except CleaveError:
                raise Held(number)


def _seen(watch, houses):
    """What a watch on one of these houses tells."""
    name, colours, mark = watch
    return ring_or_cut(houses[name], colours, mark)


def _check_used(recipe, names):
    for name in names_used(recipe):
        if name not in names:
            raise NoName(name)


def _made_anew(name, recipes, houses):
    """The houses with the named one made anew, and all that lean on it by steps."""
    anew = {**houses, name: made(recipes[name], houses)}
    leaning = [name]
    for other, recipe in recipes.items():
        if any([used in leaning for used in names_used(recipe)]):
            try:
                anew[other] = made(recipe, anew)
            except NoMake:
                raise Held(other)
            leaning.append(other)
    return anew
