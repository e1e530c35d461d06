"""Pages: books as texts."""
from signcleave.book import book_of, new_shelf
from signcleave.errors import BadDeed, BadPage, CleaveError, HouseError
from signcleave.spelling import is_number, read_recipe, recipe_text


def page(book):
    """The text that tells all of a book but its past."""
    houses = [f"house {name} {recipe_text(book.recipe(name))}" for name in book.names()]
    watches = [f"watch {number} {name} {colours} {mark}" for number, name, colours, mark in book.watches()]
    return "".join([f"{row}\n" for row in [f"next {book.coming()}", *houses, *watches]])


def read_page(text):
    """The book of a page."""
    *rows, rest = text.split("\n")
    if not rows:
        raise BadPage(0)
    coming = _read_next(rows[0])
    shelf = new_shelf()
    for at, row in enumerate(rows[1:], start=1):
        try:
            _put_row(shelf, row.split(" "), coming)
        except (CleaveError, HouseError):
            raise BadPage(at)
    # What stands behind the last line feed is a row that lacks its own.
    if rest != "":
        raise BadPage(len(rows))
    shelf.skip_to(coming)
    return book_of(shelf)


def _read_next(row):
    """The next number that the first row tells."""
    word, _, number = row.partition(" ")
    if word != "next" or not is_number(number) or int(number) < 1:
        raise BadPage(0)
    return int(number)


def _put_row(shelf, words, coming):
    """Puts on the shelf what a row of these words tells."""
    if words[0] == "house" and len(words) > 2 and not shelf.watches():
        shelf.keep(words[1], read_recipe(words[2:]))
    elif words[0] == "watch" and len(words) == 5 and is_number(words[1]) and is_number(words[4]):
        _put_watch(shelf, int(words[1]), words[2:4], int(words[4]), coming)
    else:
        raise BadDeed("a row tells of a house, or behind all of these of a watch")


def _put_watch(shelf, number, words, mark, coming):
    """Puts a watch of a told number on the shelf."""
    if not shelf.coming() <= number < coming:
        raise BadDeed(f"watch {number} is out of order, or not below {coming}")
    shelf.skip_to(number)
    shelf.add_watch(words[0], words[1], mark)
