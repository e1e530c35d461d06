"""Deeds, done on a shelf."""
from signcleave.errors import BadDeed, CleaveError, HouseError, Stopped

COUNTS = {"keep": 3, "change": 3, "drop": 2, "watch": 4, "leave": 2, "several": 2}


def done(shelf, deed):
    """Does a deed and tells what it tells; where it is refused the shelf is to be thrown away."""
    if len(deed) == 0 or COUNTS.get(deed[0]) != len(deed):
        raise BadDeed("a deed is a word and as many things as belong to it")
    word, *handed = deed
    if word == "several":
        return all_done(shelf, handed[0])
    if word == "watch":
        return shelf.add_watch(*handed)
    if word == "keep":
        shelf.keep(*handed)
    elif word == "change":
        shelf.change(*handed)
    elif word == "drop":
        shelf.drop(*handed)
    else:
        shelf.leave(*handed)
    return None


def all_done(shelf, deeds):
    """Does deeds in order and tells the list of what each tells; likewise."""
    told = []
    for at, deed in enumerate(deeds):
        try:
            told.append(done(shelf, deed))
        except (CleaveError, HouseError) as refusal:
            raise Stopped(at, refusal.word)
    return told
