"""Point 17: from field to field over walls; points 1 and 2 where they speak of these."""
import unittest
from itertools import product
from random import Random

from sample_houses import all_houses, few_houses, rank_in, rings_of, rows_of_signs, square, turn
from signcleave.errors import BadRow, BadThing, CleaveError, HouseError, Nothing, NoWall
from signcleave.house import House
from signcleave.makers import of_columns, of_web, spread
from signcleave.rows import fields, stands
from signcleave.walker import Walker, way

HOUSES = all_houses()
# Things 0 and 2 are of one family, so are 1 and 4; thing 3 is a loop.
FAMILIES = of_columns([[1, 0], [0, 1], [2, 0], [0, 0], [0, -1], [1, 1]])


def families_in(house):
    """The families, as point 9 words them."""
    things = [thing for thing in range(house.things()) if rank_in(house, [thing]) == 1]
    return sorted({tuple(other for other in things if rank_in(house, [thing, other]) == 1) for thing in things})


def across(field, family):
    return tuple(-sign if thing in family else sign for thing, sign in enumerate(field))


def fields_in(house):
    """The fields, as point 15 words them."""
    loops = [thing for thing in range(house.things()) if rank_in(house, [thing]) == 0]
    both = rings_of(house)
    choices = [(0,) if thing in loops else (-1, 1) for thing in range(house.things())]
    return [row for row in product(*choices) if all(square(row, ring) for ring in both)]


class Plain:
    """The fields and families of a house, and the ways between the fields by steps over walls."""

    def __init__(self, house):
        self.fields = set(fields_in(house))
        self.families = families_in(house)

    def walls(self, field):
        return [family for family in self.families if across(field, family) in self.fields]

    def steps_from(self, start):
        """How many steps each field lies from the start."""
        far = {start: 0}
        edge = [start]
        while edge:
            edge = [across(field, family) for field in edge for family in self.walls(field)]
            edge = [field for field in dict.fromkeys(edge) if field not in far]
            far.update({field: 1 + min(far[across(field, family)] for family in self.walls(field)
                                       if across(field, family) in far) for field in edge})
        return far


class Walking(unittest.TestCase):

    def test_walls_and_steps_from_each_field(self):
        for house in HOUSES.values():
            plain = Plain(house)
            for field in sorted(plain.fields):
                walker = Walker(house, field)
                self.assertEqual((walker.field(), len(walker)), (field, 0))
                self.assertIs(type(walker.field()), tuple)
                walls = walker.walls()
                self.assertEqual(walls, [list(family) for family in plain.walls(field)], (str(house), field))
                for thing in range(house.things()):
                    crossed = [family for family in plain.walls(field) if thing in family]
                    if not crossed:
                        with self.assertRaises(NoWall) as caught:
                            walker.go(thing)
                        self.assertEqual(caught.exception.word, "NoWall")
                        self.assertIsInstance(caught.exception, HouseError)
                        self.assertEqual((walker.field(), len(walker)), (field, 0))
                        continue
                    self.assertIsNone(walker.go(thing))
                    self.assertEqual((walker.field(), len(walker)), (across(field, crossed[0]), 1))
                    self.assertIsNone(walker.back())
                    self.assertEqual((walker.field(), len(walker)), (field, 0))

    def test_fields_are_those_that_rows_tells(self):
        for house in few_houses().values():
            self.assertEqual(sorted(Plain(house).fields), fields(house))

    def test_long_walks_and_back(self):
        chance = Random(17)
        for house in few_houses().values():
            start = chance.choice(fields(house))
            walker = Walker(house, start)
            passed = [start]
            for _ in range(12):
                walls = walker.walls()
                if walls:
                    walker.go(chance.choice(chance.choice(walls)))
                    passed.append(walker.field())
                    self.assertTrue(stands(house, walker.field()))
                self.assertEqual(len(walker), len(passed) - 1)
            while len(passed) > 1:
                self.assertEqual(walker.field(), passed.pop())
                walker.back()
            self.assertEqual((walker.field(), len(walker)), (start, 0))
            self.assertRaises(Nothing, walker.back)

    def test_families_and_a_loop(self):
        walker = Walker(FAMILIES, (1, 1, 1, 0, -1, 1))
        self.assertEqual(walker.walls(), [[0, 2], [1, 4]])
        walker.go(4)
        self.assertEqual(walker.field(), (1, -1, 1, 0, 1, 1))
        self.assertEqual(walker.walls(), [[1, 4], [5]])
        walker.go(5)
        self.assertEqual(walker.field(), (1, -1, 1, 0, 1, -1))
        self.assertRaises(NoWall, walker.go, 3)
        self.assertRaises(NoWall, walker.go, 1)
        walker.go(2)
        self.assertEqual((walker.field(), len(walker)), ((-1, -1, -1, 0, 1, -1), 3))
        for _ in range(3):
            walker.back()
        self.assertEqual((walker.field(), len(walker)), ((1, 1, 1, 0, -1, 1), 0))

    def test_houses_without_walls(self):
        for many in range(8):
            walker = Walker(House(many, 0, [1]), (0,) * many)
            self.assertEqual((walker.field(), walker.walls(), len(walker)), ((0,) * many, [], 0))
            for thing in range(many):
                self.assertRaises(NoWall, walker.go, thing)
            self.assertRaises(Nothing, walker.back)

    def test_bridges_alone(self):
        walker = Walker(House(3, 3, [1]), [1, -1, 1])
        self.assertEqual(walker.walls(), [[0], [1], [2]])
        walker.go(1)
        walker.go(1)
        self.assertEqual((walker.field(), len(walker)), ((1, -1, 1), 2))

    def test_arguments_by_name(self):
        walker = Walker(start=(1, 1), house=spread(2, 1))
        walker.go(thing=1)
        self.assertEqual(walker.field(), (-1, -1))
        self.assertEqual(way(other=(1, 1), one=(-1, -1), house=spread(2, 1)), [0])

    def test_lists_and_tuples_alike(self):
        for field in fields(FAMILIES):
            self.assertEqual(Walker(FAMILIES, list(field)).field(), field)
            self.assertEqual(way(FAMILIES, list(field), turn(field)), way(FAMILIES, field, list(turn(field))))


class Ways(unittest.TestCase):

    def check(self, house, plain, one, other, fewest):
        told = way(house, one, other)
        self.assertIs(type(told), list)
        unlike = [family for family in plain.families if one[family[0]] != other[family[0]]]
        self.assertEqual(len(told), len(unlike), (str(house), one, other))
        self.assertEqual(len(told), fewest)
        self.assertEqual(sorted(told), [family[0] for family in unlike])
        walker = Walker(house, one)
        for thing in told:
            walker.go(thing)
        self.assertEqual(walker.field(), other)

    def test_ways_between_all_fields(self):
        for house in HOUSES.values():
            if house.things() > 4:
                continue
            plain = Plain(house)
            for one in sorted(plain.fields):
                far = plain.steps_from(one)
                self.assertEqual(set(far), plain.fields)
                for other in sorted(plain.fields):
                    self.check(house, plain, one, other, far[other])

    def test_ways_by_chance(self):
        chance = Random(71)
        for house in few_houses().values():
            if house.things() <= 4:
                continue
            plain = Plain(house)
            one = chance.choice(sorted(plain.fields))
            far = plain.steps_from(one)
            for other in chance.sample(sorted(plain.fields), min(5, len(plain.fields))):
                self.check(house, plain, one, other, far[other])

    def test_to_itself_and_to_the_opposite(self):
        for house in HOUSES.values():
            told = fields(house)
            if told:
                field = told[len(told) // 2]
                self.assertEqual(way(house, field, field), [])
                there = way(house, field, turn(field))
                self.assertEqual(sorted(there), [family[0] for family in families_in(house)])

    def test_told_alike_again_and_may_be_changed(self):
        house = of_web(4, [(0, 1), (0, 2), (0, 3), (1, 2), (1, 3), (2, 3)])
        told = fields(house)
        there = way(house, told[0], told[-1])
        kept = list(there)
        there.clear()
        self.assertEqual(way(house, told[0], told[-1]), kept)


class Refusals(unittest.TestCase):

    def refused(self, kind, asked, *handed):
        with self.subTest(kind=kind.__name__), self.assertRaises(kind) as caught:
            asked(*handed)
        self.assertEqual(caught.exception.word, kind.__name__)
        self.assertIsInstance(caught.exception, HouseError if kind in (Nothing, NoWall) else CleaveError)

    def test_each_row_is_a_field_or_refused(self):
        for house in [*few_houses().values(), FAMILIES]:
            if house.things() > 5:
                continue
            told = set(fields_in(house))
            for row in rows_of_signs(house.things()):
                if row in told:
                    self.assertEqual(Walker(house, row).field(), row)
                else:
                    self.refused(BadRow, Walker, house, row)
                    self.refused(BadRow, Walker, house, list(row))

    def test_rows_of_another_length_or_with_other_signs(self):
        house = spread(3, 2)
        good = (1, 1, 1)
        for row in ((), (1,), (1, 1), (1, 1, 1, 1), (1, 1, 2), (-2, 1, 1), (999999999, 1, 1), (1,) * 64, (0, 0, 0)):
            self.refused(BadRow, Walker, house, row)
            self.refused(BadRow, way, house, row, good)
            self.refused(BadRow, way, house, good, row)
            self.refused(BadRow, way, house, row, row)
        self.refused(BadRow, Walker, House(0, 0, [1]), (0,))
        self.assertEqual(Walker(House(0, 0, [1]), []).field(), ())
        self.assertEqual(way(House(0, 0, [1]), (), []), [])

    def test_rows_that_stand_and_are_no_fields(self):
        self.assertTrue(stands(spread(3, 2), (1, 0, -1)))
        self.refused(BadRow, Walker, spread(3, 2), (1, 0, -1))
        self.refused(BadRow, Walker, House(2, 0, [1]), (0, 1))
        self.refused(BadRow, Walker, FAMILIES, (1, 1, 1, 1, -1, 1))

    def test_things(self):
        for house, start in ((FAMILIES, (1, 1, 1, 0, -1, 1)), (House(0, 0, [1]), ()), (House(2, 0, [1]), (0, 0))):
            walker = Walker(house, start)
            for thing in (-1, house.things(), 64, 999999999, -999999999):
                self.refused(BadThing, walker.go, thing)
            self.assertEqual((walker.field(), len(walker)), (start, 0))

    def test_nothing_to_take_back(self):
        walker = Walker(FAMILIES, (1, 1, 1, 0, -1, 1))
        self.refused(Nothing, walker.back)
        walker.go(0)
        self.refused(NoWall, walker.go, 3)
        walker.back()
        self.refused(Nothing, walker.back)
        self.refused(Nothing, walker.back)
        self.assertEqual((walker.field(), len(walker)), ((1, 1, 1, 0, -1, 1), 0))


class OwnWays(unittest.TestCase):

    def test_twins(self):
        one = Walker(FAMILIES, (1, 1, 1, 0, -1, 1))
        one.go(1)
        one.go(5)
        other = one.twin()
        self.assertIs(type(other), Walker)
        self.assertEqual((other.field(), len(other), other.walls()), (one.field(), 2, one.walls()))
        other.go(0)
        self.assertEqual((one.field(), len(one)), ((1, -1, 1, 0, 1, -1), 2))
        for _ in range(2):
            one.back()
        self.assertEqual((other.field(), len(other)), ((-1, -1, -1, 0, 1, -1), 3))
        for _ in range(3):
            other.back()
        self.assertEqual((other.field(), len(other)), ((1, 1, 1, 0, -1, 1), 0))
        self.assertRaises(Nothing, other.back)

    def test_what_is_handed_in_may_change_later(self):
        row = [1, 1, 1, 0, -1, 1]
        walker = Walker(FAMILIES, row)
        self.assertEqual(row, [1, 1, 1, 0, -1, 1])
        row[0] = -1
        row.append(1)
        self.assertEqual(walker.field(), (1, 1, 1, 0, -1, 1))

    def test_told_lists_may_be_changed(self):
        walker = Walker(FAMILIES, (1, 1, 1, 0, -1, 1))
        told = walker.walls()
        told[0].append(5)
        told.pop()
        self.assertEqual(walker.walls(), [[0, 2], [1, 4]])
        walker.go(0)
        self.assertEqual(walker.field(), (-1, 1, -1, 0, -1, 1))
        walker.back()
        self.assertEqual(walker.field(), (1, 1, 1, 0, -1, 1))

    def test_asking_changes_nothing(self):
        before = str(FAMILIES)
        walker = Walker(FAMILIES, (1, 1, 1, 0, -1, 1))
        walker.go(1)
        for _ in range(2):
            self.assertEqual((walker.field(), walker.walls(), len(walker)), ((1, -1, 1, 0, 1, 1), [[1, 4], [5]], 1))
        self.assertEqual(str(FAMILIES), before)


if __name__ == "__main__":
    unittest.main()
