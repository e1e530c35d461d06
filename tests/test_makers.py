"""Points 3, 4 and 5 for houses of columns, 7 and 8 for webs, 5 for spread houses; points 1 and 2 as far as these go."""
import copy
import unittest
from fractions import Fraction
from itertools import combinations
from random import Random

from sample_houses import (
    WEBS, both_ways, column_signs, lots_of, sign_of, some_columns, square, support, told_signs, turn,
)
from signcleave.errors import BadColumn, BadCount, BadWeb, CleaveError, Flat
from signcleave.house import House
from signcleave.makers import of_columns, of_web, spread
from signcleave.rings import cuts, rings

NINE = 999999999


def solved(columns):
    """The one way, but for a factor, to sum the columns up to nought; None where there is none or are several."""
    many, size = len(columns), len(columns[0])
    rows = [[Fraction(column[at]) for column in columns] for at in range(size)]
    heads = []
    for at in range(many):
        found = [row for row in range(len(heads), size) if rows[row][at] != 0]
        if not found:
            continue
        top = len(heads)
        rows[top], rows[found[0]] = rows[found[0]], rows[top]
        rows[top] = [number / rows[top][at] for number in rows[top]]
        for row in range(size):
            if row != top:
                rows[row] = [one - rows[row][at] * other for one, other in zip(rows[row], rows[top])]
        heads.append(at)
    free = [at for at in range(many) if at not in heads]
    if len(free) != 1:
        return None
    factors = [Fraction(0)] * many
    factors[free[0]] = Fraction(1)
    for row, at in enumerate(heads):
        factors[at] = -rows[row][free[0]]
    return factors


def rings_by_sums(columns):
    """The signs of all ways to sum up to nought that need each of their columns."""
    many = len(columns)
    found = []
    for size in range(1, many + 1):
        for lot in combinations(range(many), size):
            factors = solved([columns[thing] for thing in lot])
            if factors is not None and all(factor != 0 for factor in factors):
                row = [0] * many
                for thing, factor in zip(lot, factors):
                    row[thing] = sign_of(factor)
                found.append(tuple(row))
    return both_ways(found)


def ways_round(knots, arrows):
    """All ways round of a web that have no knot twice, each from each of its knots and to both sides."""
    found = []

    def walk(first, here, met, row):
        for at, (start, end) in enumerate(arrows):
            for out, into, sign in ((start, end, 1), (end, start, -1)):
                if out != here or row[at] != 0:
                    continue
                longer = row[:at] + (sign,) + row[at + 1:]
                if into == first:
                    found.append(longer)
                elif into not in met:
                    walk(first, into, met | {into}, longer)

    for knot in range(knots):
        walk(knot, knot, {knot}, (0,) * len(arrows))
    return both_ways(found)


def web_parts(knots, arrows):
    """How many parts a web has."""
    count = 0
    left = set(range(knots))
    while left:
        count += 1
        met = {left.pop()}
        while True:
            more = {knot for arrow in arrows if set(arrow) & met for knot in arrow} - met
            if not more:
                break
            met |= more
        left -= met
    return count


def chance_webs():
    chance = Random(8)
    for _ in range(60):
        knots = chance.randint(1, 8)
        yield knots, [(chance.randrange(knots), chance.randrange(knots)) for _ in range(chance.randint(0, 7))]


class Interface(unittest.TestCase):

    def test_arguments_by_name(self):
        self.assertEqual(of_columns(columns=[[1]]), House(1, 1, [1]))
        self.assertEqual(of_web(arrows=[(0, 1)], knots=2), House(1, 1, [1]))
        self.assertEqual(spread(rank=1, things=2), House(2, 1, [1, 1]))

    def test_all_make_houses(self):
        for house in (of_columns([[1]]), of_web(1, []), of_web(2, [(0, 1)]), spread(3, 1)):
            self.assertIs(type(house), House)


class Columns(unittest.TestCase):

    def test_few_columns(self):
        self.assertEqual(of_columns([[1, 0], [0, 1], [1, 1]]), House(3, 2, [1, 1, -1]))
        self.assertEqual(of_columns([[0, 1], [1, 0], [1, 1]]).signs(), (1, 1, -1))
        self.assertEqual(of_columns([[1], [-1], [0]]), House(3, 1, [1, -1, 0]))
        self.assertEqual(of_columns([[2, 3], [4, 5]]), House(2, 2, [1]))

    def test_columns_by_chance(self):
        chance = Random(9)
        for many in range(1, 8):
            for rank in range(1, min(many, 5) + 1):
                for bound in (1, 2, NINE):
                    columns = some_columns(many, rank, bound, chance)
                    signs = column_signs(columns)
                    if not any(signs):
                        self.assertRaises(Flat, of_columns, columns)
                        continue
                    house = of_columns(columns)
                    self.assertEqual((house.things(), house.rank()), (many, rank))
                    self.assertEqual(house.signs(), told_signs(signs), columns)

    def test_seven_columns_of_six_and_seven_numbers(self):
        chance = Random(10)
        for rank in (6, 7):
            columns = some_columns(7, rank, 9, chance)
            self.assertEqual(of_columns(columns).signs(), told_signs(column_signs(columns)))

    def test_columns_of_no_numbers(self):
        for many in range(1, 8):
            house = of_columns([[] for _ in range(many)])
            self.assertEqual(house, House(many, 0, [1]))
            self.assertEqual(len(rings(house)), 2 * many)
        self.assertEqual(of_columns(((), ())), House(2, 0, [1]))

    def test_alike_and_nought_columns(self):
        house = of_columns([[1, 2], [1, 2], [0, 0], [-2, -4], [0, 1]])
        self.assertEqual(house, House(5, 2, [0, 0, 0, 1, 0, 0, 1, 0, 0, -1]))
        self.assertIn((1, -1, 0, 0, 0), rings(house))
        self.assertIn((1, 0, 0, 1, 0), rings(house))
        self.assertIn((0, 0, 1, 0, 0), rings(house))
        self.assertEqual(of_columns([[0], [5], [0]]), House(3, 1, [0, 1, 0]))

    def test_one_column(self):
        for number in (1, -1, 7, -NINE):
            self.assertEqual(of_columns([[number]]), House(1, 1, [1]))
        self.assertEqual(of_columns([[]]), House(1, 0, [1]))

    def test_great_numbers_are_told_exactly(self):
        columns = [[NINE, NINE - 1], [NINE - 1, NINE - 2], [1, 1]]
        self.assertEqual(of_columns(columns).signs(), told_signs((-1, 1, 1)))

    def test_rings_are_the_sums_up_to_nought(self):
        chance = Random(11)
        for many, rank, bound in [
            (3, 2, 1), (4, 2, 1), (4, 2, 3), (5, 2, 1), (5, 3, 1), (5, 3, 5), (5, 4, 2), (6, 3, 1), (6, 3, 4), (7, 3, 2),
        ]:
            for _ in range(3):
                columns = some_columns(many, rank, bound, chance)
                if any(column_signs(columns)):
                    self.assertEqual(rings(of_columns(columns)), rings_by_sums(columns), columns)

    def test_cuts_are_signs_of_sums_by_rows(self):
        # Each sum of the rows, with any factors, must be square to all rings; those of one row alone are tried.
        columns = [[1, 0, 2], [0, 1, -1], [1, 1, 1], [2, -1, 0], [0, 0, 3], [1, -1, 0]]
        told = rings(of_columns(columns))
        for row in zip(*columns):
            for ring in told:
                self.assertTrue(square(tuple(sign_of(number) for number in row), ring))

    def test_lists_and_tuples_alike(self):
        columns = [[1, 0], [0, 1], [1, 1]]
        house = of_columns(columns)
        self.assertEqual(of_columns(tuple(columns)), house)
        self.assertEqual(of_columns([tuple(column) for column in columns]), house)
        self.assertEqual(of_columns(tuple(tuple(column) for column in columns)), house)

    def refused(self, kind, columns):
        with self.subTest(columns=columns), self.assertRaises(kind) as caught:
            of_columns(columns)
        self.assertEqual(caught.exception.word, kind.__name__)
        self.assertIsInstance(caught.exception, CleaveError)

    def test_columns_that_fit_together_nowhere(self):
        for columns in (
            [], (), [[1, 2]], [[1, 2, 3], [4, 5, 6]], [[1], [2, 3]], [[1, 2], [3]], [[], [1]], [[1], []],
            [[1, 0], [0, 1], [1]], [[1, 0], [0, 1], [1, 2, 3]], [[1] * 7] * 6, [[1]] * 8, [[]] * 8, [[1, 2]] * 64,
            [[1] * 64], [[1] * 8] * 7, [[1] * 8] * 8,
        ):
            self.refused(BadColumn, columns)

    def test_flat_columns(self):
        for columns in (
            [[0]], [[0], [0]], [[1, 2], [2, 4], [-1, -2]], [[0, 1], [0, 2]], [[1, 2, 3], [4, 5, 6], [7, 8, 9]],
            [[1, 1, 0]] * 7, [[0] * 7] * 7, [[NINE, NINE], [1, 1]],
        ):
            self.refused(Flat, columns)

    def test_columns_are_refused_ahead_of_flat(self):
        for columns in ([[0], [0, 0]], [[0, 0]], [[0]] * 8, [[0, 0, 0], [0, 0, 0]], [[0, 0], [0]]):
            self.refused(BadColumn, columns)

    def test_what_is_handed_in_stays_and_may_change_later(self):
        for columns in ([[1, 0], [0, 1], [1, 1]], [[0], [0]], [[1], [2, 3]], []):
            kept = copy.deepcopy(columns)
            try:
                of_columns(columns)
            except CleaveError:
                pass
            self.assertEqual(columns, kept)
        columns = [[1, 0], [0, 1], [1, 1]]
        house = of_columns(columns)
        columns[0][0] = -5
        columns.pop()
        self.assertEqual(house, House(3, 2, [1, 1, -1]))


class Webs(unittest.TestCase):

    def check(self, knots, arrows):
        house = of_web(knots, arrows)
        self.assertEqual(house.things(), len(arrows))
        self.assertEqual(house.rank(), knots - web_parts(knots, arrows))
        self.assertEqual(rings(house), ways_round(knots, arrows), (knots, arrows))

    def test_rings_are_the_ways_round(self):
        for name, web in WEBS.items():
            with self.subTest(name):
                self.check(*web)

    def test_webs_by_chance(self):
        for knots, arrows in chance_webs():
            self.check(knots, arrows)

    def test_few_webs(self):
        self.assertEqual(rings(of_web(3, [(0, 1), (1, 2), (2, 0)])), [(-1, -1, -1), (1, 1, 1)])
        self.assertEqual(rings(of_web(3, [(0, 1), (1, 2), (0, 2)])), [(-1, -1, 1), (1, 1, -1)])
        self.assertEqual(rings(of_web(2, [(0, 1), (1, 0)])), [(-1, -1), (1, 1)])
        self.assertEqual(rings(of_web(2, [(0, 1), (0, 1)])), [(-1, 1), (1, -1)])

    def test_cuts_part_the_knots(self):
        # A cut goes between two sides: 1 at arrows to the one, -1 at those to the other.
        for name, (knots, arrows) in WEBS.items():
            told = cuts(of_web(knots, arrows))
            found = []
            for size in range(knots + 1):
                for side in combinations(range(knots), size):
                    found.append(tuple((end in side) - (start in side) for start, end in arrows))
            found = both_ways(found)
            least = [row for row in found if not any(support(other) < support(row) for other in found)]
            self.assertEqual(told, least, name)

    def test_an_arrow_from_a_knot_to_itself_is_a_loop(self):
        house = of_web(2, [(0, 1), (1, 1), (1, 0)])
        self.assertEqual(rings(house), [(-1, 0, -1), (0, -1, 0), (0, 1, 0), (1, 0, 1)])
        self.assertEqual(of_web(1, [(0, 0)] * 7), House(7, 0, [1]))
        self.assertEqual(of_web(8, [(7, 7)]), House(1, 0, [1]))

    def test_no_arrows(self):
        for knots in range(1, 9):
            self.assertEqual(of_web(knots, []), House(0, 0, [1]))
            self.assertEqual(of_web(knots, ()), House(0, 0, [1]))

    def test_no_ways_round(self):
        self.assertEqual(of_web(8, [(at, at + 1) for at in range(7)]), House(7, 7, [1]))
        self.assertEqual(of_web(8, [(at + 1, 0) for at in range(7)]), House(7, 7, [1]))
        self.assertEqual(of_web(2, [(1, 0)]), House(1, 1, [1]))

    def test_lists_and_tuples_alike(self):
        arrows = [(0, 1), (1, 2), (2, 0)]
        house = of_web(3, arrows)
        self.assertEqual(of_web(3, tuple(arrows)), house)
        self.assertEqual(of_web(3, [list(arrow) for arrow in arrows]), house)
        self.assertEqual(of_web(3, tuple(list(arrow) for arrow in arrows)), house)

    def test_refused(self):
        for knots, arrows in (
            (0, []), (-1, []), (9, []), (64, []), (999999999, []), (0, [(0, 0)]), (9, [(0, 1)]),
            (1, [(0, 1)]), (1, [(1, 0)]), (2, [(0, 2)]), (2, [(2, 0)]), (8, [(0, 8)]), (8, [(8, 8)]),
            (2, [(0, -1)]), (2, [(-1, 0)]), (2, [(-1, -1)]), (3, [(0, 1), (1, 2), (2, 3)]),
            (2, [(0, 1)] * 8), (1, [(0, 0)] * 64), (9, [(0, 1)] * 8), (2, [(0, 1)] * 7 + [(0, 2)]),
            (3, [(0, 1, 2)]), (3, [(0,)]), (3, [()]),
        ):
            with self.subTest(knots=knots, arrows=arrows), self.assertRaises(BadWeb) as caught:
                of_web(knots, arrows)
            self.assertEqual(caught.exception.word, "BadWeb")
            self.assertIsInstance(caught.exception, CleaveError)

    def test_eight_knots_and_seven_arrows_are_let(self):
        self.assertEqual(len(of_web(8, [(0, 7)] * 7)), 7)

    def test_what_is_handed_in_stays_and_may_change_later(self):
        arrows = [[0, 1], [1, 2], [0, 2]]
        kept = copy.deepcopy(arrows)
        house = of_web(3, arrows)
        self.assertEqual(arrows, kept)
        told = rings(house)
        arrows[2].reverse()
        arrows.pop(0)
        self.assertEqual(rings(house), told)
        wrong = [[0, 1], [0, 9]]
        self.assertRaises(BadWeb, of_web, 3, wrong)
        self.assertEqual(wrong, [[0, 1], [0, 9]])


class Spread(unittest.TestCase):

    def test_all_counts(self):
        for things in range(8):
            for rank in range(things + 1):
                house = spread(things, rank)
                self.assertEqual(house, House(things, rank, [1] * len(lots_of(things, rank))))
                self.assertEqual(set(house.signs()), {1})

    def test_rings_go_to_and_fro(self):
        self.assertEqual(rings(spread(4, 2)), both_ways([(1, -1, 1, 0), (1, -1, 0, 1), (1, 0, -1, 1), (0, 1, -1, 1)]))

    def test_refused(self):
        for things, rank in (
            (8, 0), (8, 8), (-1, 0), (-1, -1), (3, 4), (3, -1), (0, 1), (0, -1), (7, 8), (64, 3), (3, 999999999), (8, 9),
        ):
            with self.subTest(things=things, rank=rank), self.assertRaises(BadCount) as caught:
                spread(things, rank)
            self.assertEqual(caught.exception.word, "BadCount")

    def test_the_same_asked_again(self):
        self.assertEqual(spread(5, 2), spread(5, 2))
        self.assertEqual(turn(turn(spread(5, 2).signs())), spread(5, 2).signs())


if __name__ == "__main__":
    unittest.main()
