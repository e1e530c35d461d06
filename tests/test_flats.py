"""Point 9: ranks, closed things, loops, bridges, families, parts; points 1 and 2 where they speak of these."""
import copy
import unittest
from itertools import combinations, permutations

from sample_houses import all_houses, few_houses, rank_in, rings_of, support
from signcleave.errors import BadThing, CleaveError
from signcleave.flats import bridges, closed, families, loops, parts, rank_of
from signcleave.house import House
from signcleave.makers import of_columns, of_web, spread

HOUSES = all_houses()
MIXED = [[1, 0], [0, 0], [0, 1], [0, -2], [0, 0], [0, 3]]


def lists_of(house):
    """Lists of all lots of things of a house."""
    things = range(house.things())
    return [list(lot) for size in range(house.things() + 1) for lot in combinations(things, size)]


def is_closed(house, things):
    """As point 9 words it."""
    rank = rank_in(house, things)
    return all(rank_in(house, [*things, thing]) > rank for thing in range(house.things()) if thing not in things)


def least_closed(house, things):
    """The least of all closed things that have these."""
    found = [lot for lot in lists_of(house) if set(things) <= set(lot) and is_closed(house, lot)]
    least = min(found, key=len)
    assert all(set(least) <= set(lot) for lot in found)
    return least


def parts_by_steps(house):
    """Parts, by going from thing to thing through rings."""
    found = []
    for thing in range(house.things()):
        met = {thing}
        while True:
            more = set().union(*[support(ring) for ring in rings_of(house) if support(ring) & met]) - met
            if not more:
                break
            met |= more
        if sorted(met) not in found:
            found.append(sorted(met))
    return sorted(found)


class Interface(unittest.TestCase):

    def test_arguments_by_name(self):
        house = spread(3, 2)
        self.assertEqual(rank_of(things=[0], house=house), 1)
        self.assertEqual(closed(things=[0], house=house), [0])
        self.assertEqual(loops(house=house), [])
        self.assertEqual(bridges(house=house), [])
        self.assertEqual(families(house=house), [[0], [1], [2]])
        self.assertEqual(parts(house=house), [[0, 1, 2]])


class Ranks(unittest.TestCase):

    def test_few_houses(self):
        house = of_columns(MIXED)
        for things, rank in (
            ([], 0), ([0], 1), ([1], 0), ([1, 4], 0), ([0, 1], 1), ([2, 3], 1), ([2, 3, 5], 1), ([0, 2], 2),
            ([0, 1, 2, 3, 4, 5], 2), ([5, 0], 2), ([3, 3], 1), ([1, 1], 0), ([5, 3, 2, 5], 1), ([0, 0, 0], 1),
        ):
            self.assertEqual(rank_of(house, things), rank, things)
            self.assertEqual(rank_of(house, tuple(things)), rank, things)

    def test_all_lists(self):
        for name, house in HOUSES.items():
            for things in lists_of(house):
                self.assertEqual(rank_of(house, things), rank_in(house, things), (name, things))

    def test_in_any_order_and_twice(self):
        house = of_columns(MIXED)
        for things in permutations([0, 2, 3, 1], 3):
            wanted = rank_in(house, things)
            self.assertEqual(rank_of(house, list(things)), wanted)
            self.assertEqual(rank_of(house, [*things, *things]), wanted)
            self.assertEqual(rank_of(house, [things[0], things[0], *things]), wanted)

    def test_edges(self):
        for many in range(8):
            self.assertEqual(rank_of(House(many, 0, [1]), list(range(many))), 0)
            self.assertEqual(rank_of(House(many, many, [1]), list(range(many))), many)
            self.assertEqual(rank_of(House(many, many, [1]), []), 0)
        self.assertEqual(rank_of(spread(7, 3), [6, 5, 4, 3]), 3)
        self.assertEqual(rank_of(spread(7, 3), [6, 6, 5, 5, 6]), 2)


class Closed(unittest.TestCase):

    def test_few_houses(self):
        house = of_columns(MIXED)
        for things, wanted in (
            ([], [1, 4]), ([0], [0, 1, 4]), ([1], [1, 4]), ([3], [1, 2, 3, 4, 5]), ([5, 2, 5], [1, 2, 3, 4, 5]),
            ([0, 3], [0, 1, 2, 3, 4, 5]), ([4, 1, 0, 0], [0, 1, 4]),
        ):
            self.assertEqual(closed(house, things), wanted)
            self.assertEqual(closed(house, tuple(things)), wanted)

    def test_all_lists(self):
        for name, house in list(few_houses().items())[::3]:
            if house.things() > 6:
                continue
            for things in lists_of(house):
                told = closed(house, things)
                self.assertEqual(told, least_closed(house, things), (name, things))
                self.assertIs(type(told), list)

    def test_all_lists_of_all_houses_by_ranks(self):
        for name, house in HOUSES.items():
            for things in lists_of(house):
                rank = rank_in(house, things)
                wanted = [thing for thing in range(len(house)) if rank_in(house, [*things, thing]) == rank]
                self.assertEqual(closed(house, things), wanted, (name, things))

    def test_edges(self):
        for many in range(8):
            self.assertEqual(closed(House(many, 0, [1]), []), list(range(many)))
            self.assertEqual(closed(House(many, many, [1]), []), [])
        self.assertEqual(closed(spread(7, 3), [6, 0]), [0, 6])
        self.assertEqual(closed(spread(7, 3), [6, 0, 6, 3]), list(range(7)))


class LoopsAndBridges(unittest.TestCase):

    def test_few_houses(self):
        house = of_columns(MIXED)
        self.assertEqual(loops(house), [1, 4])
        self.assertEqual(bridges(house), [0])
        house = of_web(6, [(0, 1), (1, 2), (2, 0), (2, 3), (3, 4), (4, 5), (5, 5)])
        self.assertEqual(loops(house), [6])
        self.assertEqual(bridges(house), [3, 4, 5])

    def test_all_houses(self):
        for name, house in HOUSES.items():
            things = range(house.things())
            bases = house.bases()
            self.assertEqual(loops(house), [thing for thing in things if rank_in(house, [thing]) == 0], name)
            self.assertEqual(bridges(house), [thing for thing in things if all(thing in base for base in bases)], name)

    def test_loops_are_rings_alone_and_bridges_are_in_no_ring(self):
        for name, house in HOUSES.items():
            supports = [support(ring) for ring in rings_of(house)]
            for thing in range(house.things()):
                self.assertEqual(thing in loops(house), {thing} in supports, name)
                self.assertEqual(thing in bridges(house), not any(thing in met for met in supports), name)

    def test_edges(self):
        for many in range(8):
            self.assertEqual(loops(House(many, 0, [1])), list(range(many)))
            self.assertEqual(bridges(House(many, 0, [1])), [])
            self.assertEqual(loops(House(many, many, [1])), [])
            self.assertEqual(bridges(House(many, many, [1])), list(range(many)))


class Families(unittest.TestCase):

    def test_few_houses(self):
        self.assertEqual(families(of_columns(MIXED)), [[0], [2, 3, 5]])
        self.assertEqual(families(of_columns([[1], [0], [-1], [5]])), [[0, 2, 3]])
        house = of_columns([[1, 0], [0, 1], [2, 0], [1, 1], [0, -1], [-1, -1], [0, 0]])
        self.assertEqual(families(house), [[0, 2], [1, 4], [3, 5]])

    def test_all_houses(self):
        for name, house in HOUSES.items():
            told = families(house)
            kept = [thing for thing in range(house.things()) if rank_in(house, [thing]) == 1]
            self.assertEqual(sorted(thing for family in told for thing in family), kept, name)
            self.assertEqual(told, sorted(sorted(family) for family in told), name)
            home = {thing: at for at, family in enumerate(told) for thing in family}
            for one, other in combinations(kept, 2):
                self.assertEqual(home[one] == home[other], rank_in(house, [one, other]) == 1, (name, one, other))

    def test_edges(self):
        for many in range(8):
            self.assertEqual(families(House(many, 0, [1])), [])
            self.assertEqual(families(House(many, many, [1])), [[thing] for thing in range(many)])
        self.assertEqual(families(spread(7, 1)), [[0, 1, 2, 3, 4, 5, 6]])
        self.assertEqual(families(spread(7, 2)), [[thing] for thing in range(7)])


class Parts(unittest.TestCase):

    def test_few_houses(self):
        self.assertEqual(parts(of_columns(MIXED)), [[0], [1], [2, 3, 5], [4]])
        house = of_web(6, [(0, 1), (3, 4), (1, 2), (4, 5), (2, 0), (2, 3), (5, 3)])
        self.assertEqual(parts(house), [[0, 2, 4], [1, 3, 6], [5]])
        house = of_web(4, [(2, 3), (0, 1), (1, 0), (3, 2), (1, 2), (0, 0)])
        self.assertEqual(parts(house), [[0, 3], [1, 2], [4], [5]])

    def test_all_houses(self):
        for name, house in HOUSES.items():
            told = parts(house)
            self.assertEqual(told, parts_by_steps(house), name)
            self.assertEqual(sorted(thing for part in told for thing in part), list(range(house.things())))

    def test_edges(self):
        for many in range(8):
            alone = [[thing] for thing in range(many)]
            self.assertEqual(parts(House(many, 0, [1])), alone)
            self.assertEqual(parts(House(many, many, [1])), alone)
        self.assertEqual(parts(spread(7, 3)), [[0, 1, 2, 3, 4, 5, 6]])
        self.assertEqual(parts(spread(2, 1)), [[0, 1]])


class Refusals(unittest.TestCase):

    def test_things_that_are_not_there(self):
        for house in (House(0, 0, [1]), House(3, 2, [1, 1, 1]), spread(7, 3), House(2, 0, [1])):
            many = house.things()
            for things in ([many], [-1], [many + 1, -1], [999999999], [-999999999], [*range(many), many], [-1] * 64,
                           [many, many], [*range(many), -many - 1]):
                for asked in (rank_of, closed):
                    for kind in (list, tuple):
                        with self.subTest(things=things, asked=asked.__name__), self.assertRaises(BadThing) as caught:
                            asked(house, kind(things))
                        self.assertEqual(caught.exception.word, "BadThing")
                        self.assertIsInstance(caught.exception, CleaveError)

    def test_sixty_four_things_are_let(self):
        self.assertEqual(rank_of(spread(7, 3), [5, 6] * 32), 2)
        self.assertEqual(closed(spread(7, 3), [5, 6] * 32), [5, 6])


class NothingChanges(unittest.TestCase):

    def test_what_is_handed_in_stays(self):
        house = of_columns(MIXED)
        for things in ([5, 0, 0], [], [3, 9], [-1]):
            kept = copy.deepcopy(things)
            for asked in (rank_of, closed):
                try:
                    asked(house, things)
                except CleaveError:
                    pass
                self.assertEqual(things, kept)
        self.assertEqual(house, of_columns(MIXED))

    def test_told_lists_are_new_ones(self):
        house = of_columns(MIXED)
        handed = [1, 4]
        self.assertIsNot(closed(house, handed), handed)
        for asked in (loops, bridges, families, parts):
            wanted = copy.deepcopy(asked(house))
            told = asked(house)
            told.append("other")
            told[0] = "other"
            self.assertEqual(asked(house), wanted)
        for asked in (families, parts):
            wanted = copy.deepcopy(asked(house))
            for inner in asked(house):
                inner.append(9)
                inner[0] = 7
            self.assertEqual(asked(house), wanted)
        closed(house, [0]).clear()
        self.assertEqual(closed(house, [0]), [0, 1, 4])

    def test_inner_lists_are_apart(self):
        for house in HOUSES.values():
            for asked in (families, parts):
                told = asked(house)
                self.assertEqual(len({id(inner) for inner in told}), len(told))


if __name__ == "__main__":
    unittest.main()
