"""What is best in a house: answers to askings, and whether answers are good."""
from signcleave.askings import check_asking, things_in
from signcleave.flats import bridges, check_things, loops
from signcleave.minors import drawn, struck, turned
from signcleave.rings import cuts, rings
from signcleave.runner import Runner
from signcleave.signs import SIGNS


def answered(house, asking):
    """An answer to the asking, led back from a run."""
    _check(house, asking)
    _, aim, bound, over, under, _ = asking
    kept = sorted([aim, bound, *over, *under])
    word, *papers = _ended(_narrowed(house, asking, kept), kept.index(bound), kept.index(aim))
    rows = [_turned_back(paper, kept, _turned_things(asking)) for paper in papers]
    if word == "cant":
        return (word, _led_back(rings(house), _cant_ring_lets(house, asking), kept, rows[0]))
    if word == "endless":
        return (word, _led_back(cuts(house), _endless_cut_lets(house, asking), kept, rows[0]))
    cut = _led_back(cuts(house), _best_cut_lets(house, asking), kept, rows[0])
    return (word, cut, _led_back(rings(house), _best_ring_lets(house, asking), kept, rows[1]))


def shows(house, asking, answer):
    """Whether an answer is a good one."""
    _check(house, asking)
    rows = [tuple(row) for row in answer[1:]]
    kind = (answer[0], len(rows)) if len(answer) > 0 else None
    if kind == ("cant", 1):
        return rows[0] in rings(house) and _suits(rows[0], _cant_ring_lets(house, asking))
    if kind == ("endless", 1):
        return rows[0] in cuts(house) and _suits(rows[0], _endless_cut_lets(house, asking))
    if kind == ("best", 2):
        return _shows_best(house, asking, rows[0], rows[1])
    return False


def _shows_best(house, asking, cut, ring):
    if cut not in cuts(house) or ring not in rings(house):
        return False
    if any([cut[thing] != 0 and ring[thing] != 0 for thing in [*asking[3], *asking[4]]]):
        return False
    return _suits(cut, _best_cut_lets(house, asking)) and _suits(ring, _best_ring_lets(house, asking))


def _check(house, asking):
    check_asking(asking)
    check_things(house, things_in(asking))


def _aim_sign(asking):
    return 1 if asking[0] == "greatest" else -1


def _turned_things(asking):
    """The things at which the house is turned for the run."""
    return [*asking[4], *([asking[1]] if asking[0] == "least" else [])]


def _narrowed(house, asking, kept):
    """The house of the run: of the things that are kept alone, and turned."""
    narrow = house
    # From the last one on, so that the numbers of those ahead stay.
    for thing in reversed(range(house.things())):
        if thing in asking[5]:
            narrow = drawn(narrow, thing)
        elif thing not in kept:
            narrow = struck(narrow, thing)
    return turned(narrow, [kept.index(thing) for thing in _turned_things(asking)])


def _ended(house, bound, aim):
    """How the run from the bound to the aim ends, or why it can't begin."""
    if bound in loops(house):
        return ("cant", tuple([int(thing == bound) for thing in range(house.things())]))
    if aim in bridges(house):
        return ("endless", tuple([int(thing == aim) for thing in range(house.things())]))
    runner = Runner(house, bound=bound, aim=aim)
    runner.run()
    return runner.verdict()


def _turned_back(paper, kept, turns):
    """The signs of a paper of the run, as the house has them before it is turned."""
    return [-sign if thing in turns else sign for thing, sign in zip(kept, paper)]


def _led_back(rows, lets, kept, signs):
    """The first of these rows that suits and has the run's signs at the things that are kept."""
    suiting = [row for row in rows if _suits(row, lets) and [row[thing] for thing in kept] == signs]
    return suiting[0]


def _suits(row, lets):
    return all([sign in let for sign, let in zip(row, lets)])


def _cant_ring_lets(house, asking):
    return _lets(house, asking, aim=(0,), bound=(1,), even=SIGNS, others=(0,))


def _endless_cut_lets(house, asking):
    return _lets(house, asking, aim=(_aim_sign(asking),), bound=(0,), even=(0,), others=SIGNS)


def _best_cut_lets(house, asking):
    return _lets(house, asking, aim=SIGNS, bound=(1,), even=(0,), others=SIGNS)


def _best_ring_lets(house, asking):
    return _lets(house, asking, aim=(_aim_sign(asking),), bound=SIGNS, even=SIGNS, others=(0,))


def _lets(house, asking, *, aim, bound, even, others):
    """The signs that are let at each thing of the house."""
    lets = [others] * house.things()
    for things, let in zip(asking[3:], [(0, 1), (-1, 0), even]):
        for thing in things:
            lets[thing] = let
    lets[asking[1]] = aim
    lets[asking[2]] = bound
    return lets
