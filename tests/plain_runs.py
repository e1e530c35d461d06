"""Plain ways to tell what points 19 and 20 say of bases and runs, by the lists of rings and cuts alone."""
from sample_houses import cuts_of, rings_of, support


def only(rows):
    """The one row of a list; the document says that there is just one."""
    assert len(rows) == 1, rows
    return rows[0]


class PlainBase:
    """The rings and cuts of a house, and those of single things by a base."""

    def __init__(self, house):
        self.things = house.things()
        self.bases = house.bases()
        self.rings = rings_of(house)
        self.cuts = cuts_of(house)

    def ring(self, base, thing):
        return only([ring for ring in self.rings if ring[thing] == 1 and support(ring) <= set(base) | {thing}])

    def cut(self, base, thing):
        others = set(base) - {thing}
        return only([cut for cut in self.cuts if cut[thing] == 1 and not support(cut) & others])

    def starts(self, bound, aim):
        return [base for base in self.bases if bound in base and aim not in base]

    def is_loop(self, thing):
        return not any(thing in base for base in self.bases)

    def is_bridge(self, thing):
        return all(thing in base for base in self.bases)


def plain_run(plain, bound, aim):
    """The steps of a run: a list of (base, point, price, wrong, what comes), the last with a verdict."""
    base = plain.starts(bound, aim)[0]
    told = []
    while True:
        point, price = plain.cut(base, bound), plain.ring(base, aim)
        wrong = [
            thing for thing in range(plain.things)
            if thing not in (bound, aim) and (price[thing] if thing in base else point[thing]) == -1
        ]
        coming = plain_step(plain, base, bound, aim, wrong)
        told.append((base, point, price, min(wrong, default=None), coming))
        if type(coming[0]) is str:
            return told
        out, into = coming
        base = tuple(sorted(set(base) - {out} | {into}))


def plain_step(plain, base, bound, aim, wrong):
    """The pair (out, into) that a step changes, or the verdict."""
    if not wrong:
        return ("best", plain.cut(base, bound), plain.ring(base, aim))
    thing = min(wrong)
    if thing not in base:
        ring = plain.ring(base, thing)
        free = [other for other in base if other != bound and ring[other] == -1]
        return (min(free), thing) if free else ("cant", ring)
    cut = plain.cut(base, thing)
    free = [other for other in range(plain.things) if other not in base and other != aim and cut[other] == -1]
    return (thing, min(free)) if free else ("endless", cut)
