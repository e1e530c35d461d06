"""Books, which keep houses under names and watch them."""
from signcleave.deeds import all_done, done
from signcleave.errors import Nothing
from signcleave.shelf import Shelf

NAMES = 8
WATCHES = 6


class Book:
    """Houses under names and watches, with deeds that can be taken back."""

    def __init__(self):
        # A deed is done on a twin of the shelf: shelves that were kept never change.
        self._shelf = new_shelf()
        self._past = []
        self._undone = []

    def do(self, deed):
        """Does any deed and tells what it tells."""
        shelf = self._shelf.twin()
        told = done(shelf, deed)
        self._past.append(self._shelf)
        self._undone = []
        self._shelf = shelf
        return told

    def keep(self, name, recipe):
        """Keeps a house, made by the recipe, under the name."""
        self.do(("keep", name, recipe))

    def change(self, name, recipe):
        """Gives a name another recipe."""
        self.do(("change", name, recipe))

    def drop(self, name):
        """Keeps the named house no longer."""
        self.do(("drop", name))

    def watch(self, name, colours, *, mark=0):
        """Sets a watch on a house and tells its number."""
        return self.do(("watch", name, colours, mark))

    def leave(self, number):
        """Takes a watch away."""
        self.do(("leave", number))

    def several(self, deeds):
        """Does all deeds as one, or none; tells the list of what each tells."""
        return self.do(("several", deeds))

    def trial(self, deeds):
        """Tells what several would, and leaves all as it was."""
        return all_done(self._shelf.twin(), deeds)

    def undo(self):
        """Takes the last deed back."""
        if len(self._past) == 0:
            raise Nothing("no deed can be taken back")
        self._undone.append(self._shelf)
        self._shelf = self._past.pop()

    def redo(self):
        """Does the deed again that was taken back last."""
        if len(self._undone) == 0:
            raise Nothing("no deed can be done again")
        self._past.append(self._shelf)
        self._shelf = self._undone.pop()

    def past(self):
        """How many deeds can be taken back, and how many done again."""
        return (len(self._past), len(self._undone))

    def names(self):
        """The list of the names, by keeping."""
        return self._shelf.names()

    def recipe(self, name):
        """The recipe of the named house."""
        return self._shelf.recipe(name)

    def house(self, name):
        """The named house."""
        return self._shelf.house(name)

    def watches(self):
        """The rising list of the watches, each (number, name, colours, mark)."""
        return self._shelf.watches()

    def told(self, number):
        """The ring or the cut that a watch tells."""
        return self._shelf.told(number)

    def coming(self):
        """The number of the next watch."""
        return self._shelf.coming()

    def twin(self):
        """A book that has all of this one and goes its own way."""
        other = book_of(self._shelf)
        other._past = list(self._past)
        other._undone = list(self._undone)
        return other

    def __len__(self):
        return len(self._shelf.names())

    def __eq__(self, other):
        return isinstance(other, Book) and self._shelf.all_told() == other._shelf.all_told()

    def __repr__(self):
        return f"Book({len(self._shelf.names())} houses, {len(self._shelf.watches())} watches)"


def new_shelf():
    """A shelf that holds nothing, with room for what a book has."""
    return Shelf(NAMES, WATCHES)


def book_of(shelf):
    """A book that holds what the shelf does, with nothing to take back."""
    book = Book()
    book._shelf = shelf
    return book
