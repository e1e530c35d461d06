"""Numbers and recipes as words of a page."""
from signcleave.errors import BadRecipe
from signcleave.signs import MARKS, signs_text

DIGITS = "0123456789"
MOST_FIGURES = 9
NO_NUMBERS = "."


def is_number(word):
    """Whether a word is a number plainly written."""
    figures = word.removeprefix("-")
    if not 1 <= len(figures) <= MOST_FIGURES or any([figure not in DIGITS for figure in figures]):
        return False
    return word == "0" or not figures.startswith("0")


def recipe_text(recipe):
    """The words of a recipe, one blank between."""
    word, *handed = recipe
    if word == "signs":
        words = [str(handed[0]), str(handed[1]), signs_text(handed[2])]
    elif word == "columns":
        words = [_column_text(column) for column in handed[0]]
    elif word == "web":
        words = [str(handed[0]), *[f"{start}>{end}" for start, end in handed[1]]]
    elif word in ("dual", "beside"):
        words = handed
    elif word in ("struck", "drawn"):
        words = [handed[0], str(handed[1])]
    elif word == "leaned":
        words = [handed[0], *[f"{signs_text([sign])}{thing}" for thing, sign in handed[1]]]
    else:
        words = [handed[0], *[str(thing) for thing in handed[1]]]
    return " ".join([word, *words])


def read_recipe(words):
    """The recipe of such words; of too few or too many it has a wrong count, and is none."""
    word, *rest = words
    if word == "signs":
        return (word, *_numbers(rest[:2]), *[_signs(text) for text in rest[2:]])
    if word == "columns":
        return (word, tuple([_column(text) for text in rest]))
    if word == "web":
        return (word, *_numbers(rest[:1]), tuple([_arrow(text) for text in rest[1:]]))
    if word in ("struck", "drawn"):
        return (word, *rest[:1], *_numbers(rest[1:]))
    if word in ("turned", "moved"):
        return (word, *rest[:1], _numbers(rest[1:]))
    if word == "leaned":
        return (word, *rest[:1], tuple([_step(text) for text in rest[1:]]))
    return tuple(words)


def _column_text(column):
    return ",".join([str(number) for number in column]) if column else NO_NUMBERS


def _column(text):
    return () if text == NO_NUMBERS else _numbers(text.split(","))


def _arrow(text):
    return _numbers(text.split(">"))


def _step(text):
    """A step of a sign and a thing."""
    if text[:1] not in ("+", "-"):
        raise BadRecipe("a step begins with + or -")
    return (*_numbers([text[1:]]), 1 if text.startswith("+") else -1)


def _signs(text):
    if any([mark not in MARKS for mark in text]):
        raise BadRecipe("the signs are - and 0 and +")
    return tuple([MARKS.index(mark) - 1 for mark in text])


def _numbers(words):
    if not all([is_number(word) for word in words]):
        raise BadRecipe("a number is wanted")
    return tuple([int(word) for word in words])
