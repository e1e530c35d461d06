"""Askings, and how they are written."""
from signcleave.errors import BadAsking, BadText
from signcleave.lots import MOST

WORDS = ("greatest", "least")
FIGURES = "0123456"
MARKS = ("", "-", "=")


def read_asking(text):
    """The asking that a text writes."""
    words = text.split(" ")
    for at, word in enumerate(words):
        if word not in _let_behind(words[:at]):
            raise BadText(at)
    # Things are wanted behind by, and behind where if it stands.
    if len(words) < 4 or len(words) == 5:
        raise BadText(len(words))
    groups = [[int(word[-1]) for word in words[5:] if word[:-1] == mark] for mark in MARKS]
    over, under, even = [tuple(group) for group in groups]
    return (words[0], int(words[1]), int(words[3]), over, under, even)


def asking_text(asking):
    """The text that writes an asking."""
    check_asking(asking)
    word, aim, bound, *groups = asking
    marked = [(thing, mark) for mark, group in zip(MARKS, groups) for thing in group]
    behind = [f"{mark}{thing}" for thing, mark in sorted(marked)]
    return " ".join([word, str(aim), "by", str(bound), *(["where"] if behind else []), *behind])


def things_in(asking):
    """All things of an asking: the aim, the bound, those of over, under and even."""
    _, aim, bound, over, under, even = asking
    return [aim, bound, *over, *under, *even]


def check_asking(asking):
    """Refuses a tuple that is no asking."""
    if len(asking) != 6 or asking[0] not in WORDS:
        raise BadAsking(f"an asking has {WORDS[0]} or {WORDS[1]} and five more")
    things = things_in(asking)
    if any([not 0 <= thing < MOST for thing in things]) or len(set(things)) != len(things):
        raise BadAsking(f"the things of an asking are unlike numbers from 0 to below {MOST}")
    if any([list(group) != sorted(group) for group in asking[3:]]):
        raise BadAsking("the things of over, under and even rise")


def _let_behind(words):
    """The words that may stand behind these, which are let themselves."""
    at = len(words)
    if at == 0:
        return list(WORDS)
    if at in (2, 4):
        return ["by" if at == 2 else "where"]
    told = [*words[1:2], *words[3:4]]
    last = words[-1][-1] if at > 5 else ""
    free = [figure for figure in FIGURES if figure not in told and figure > last]
    return free if at < 4 else [mark + figure for mark in MARKS for figure in free]
