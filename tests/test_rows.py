"""Points 15 and 16: rows that stand, rows behind and below others, fields and their count; points 1 and 2 for these."""
import copy
import unittest
from itertools import combinations

from sample_houses import all_houses, cuts_of, few_houses, rank_in, rings_of, rows_of_signs, square, turn
from signcleave.errors import BadRow, CleaveError
from signcleave.house import House
from signcleave.makers import of_columns, of_web, spread
from signcleave.minors import dual, struck, turned
from signcleave.rings import rings
from signcleave.rows import all_rows, behind, fields, is_below, many_fields, stands

HOUSES = all_houses()
FEW = few_houses()
MIXED = [[1, 0], [0, 0], [0, 1], [0, -2], [0, 0], [1, 3]]


def standing(house):
    """All rows that are square to all rings, rising."""
    told = rings_of(house)
    return [row for row in rows_of_signs(house.things()) if all(square(row, ring) for ring in told)]


def loops_of(house):
    return [thing for thing in range(house.things()) if rank_in(house, [thing]) == 0]


def put_behind(one, other):
    return tuple(first or second for first, second in zip(one, other))


class Interface(unittest.TestCase):

    def test_arguments_by_name(self):
        house = House(2, 1, [1, 1])
        self.assertEqual(behind(other=(1, 1), one=(-1, 0)), (-1, 1))
        self.assertIs(is_below(other=(1, 1), one=(1, 0)), True)
        self.assertIs(stands(row=(1, 1), house=house), True)
        self.assertEqual(all_rows(house=house), [(-1, -1), (0, 0), (1, 1)])
        self.assertEqual(fields(house=house), [(-1, -1), (1, 1)])
        self.assertEqual(many_fields(house=house), 2)


class BehindAndBelow(unittest.TestCase):

    def test_few_rows(self):
        self.assertEqual(behind((1, 0, -1, 0), (-1, -1, 1, 0)), (1, -1, -1, 0))
        self.assertEqual(behind((0, 0), (1, -1)), (1, -1))
        self.assertEqual(behind((1, -1), (0, 0)), (1, -1))
        self.assertEqual(behind((1, 1), (-1, -1)), (1, 1))
        self.assertIs(is_below((1, 0, -1), (1, 1, -1)), True)
        self.assertIs(is_below((1, 0, -1), (1, 0, -1)), True)
        self.assertIs(is_below((1, 0, -1), (-1, 0, -1)), False)
        self.assertIs(is_below((1, 0), (0, 0)), False)
        self.assertIs(is_below((0, 0), (1, 0)), True)

    def test_all_rows_of_up_to_three_signs(self):
        for many in range(4):
            for one in rows_of_signs(many):
                for other in rows_of_signs(many):
                    told = behind(one, other)
                    self.assertEqual(told, put_behind(one, other))
                    self.assertIs(type(told), tuple)
                    wanted = all(first == 0 or first == second for first, second in zip(one, other))
                    self.assertIs(is_below(one, other), wanted)

    def test_rows_of_no_things(self):
        self.assertEqual(behind((), ()), ())
        self.assertEqual(behind([], []), ())
        self.assertIs(is_below((), ()), True)
        self.assertIs(is_below([], ()), True)

    def test_sixty_three_signs(self):
        one, other = (1, 0, -1) * 21, (-1, -1, 0) * 21
        self.assertEqual(behind(one, other), (1, -1, -1) * 21)
        self.assertEqual(behind(other, one), (-1, -1, -1) * 21)
        self.assertIs(is_below(one, other), False)
        self.assertIs(is_below(one, (1, 1, -1) * 21), True)
        self.assertIs(is_below(one, (1, 1, -1) * 20 + (1, 1, 1)), False)
        self.assertIs(is_below((0,) * 63, one), True)

    def test_lists_and_tuples_alike(self):
        for one, other in (((1, 0, -1), (0, 1, 1)), ((1, 0, -1), (1, 1, -1))):
            for first in (one, list(one)):
                for second in (other, list(other)):
                    told = behind(first, second)
                    self.assertEqual(told, put_behind(one, other))
                    self.assertIs(type(told), tuple)
                    self.assertEqual(is_below(first, second), is_below(one, other))

    def test_refused(self):
        for one, other in (
            ((), (0,)), ((0,), ()), ((1, 0), (1, 0, 0)), ((1, 0, 0), (1, 0)), ((2,), (1,)), ((1,), (2,)), ((1,), (-2,)),
            ((0, -2), (0, 0)), ((0, 0, 3), (1, 1, 1)), ((1, 1, 1), (0, 0, 999999999)), ((2,), (2,)), ((2, 0), (1,)),
            ((1,), (0, 2)), ((0,) * 63, (0,) * 64), ((1, 1), (5, 5)),
        ):
            for asked in (behind, is_below):
                for kind in (tuple, list):
                    with self.subTest(one=one, other=other), self.assertRaises(BadRow) as caught:
                        asked(kind(one), kind(other))
                    self.assertEqual(caught.exception.word, "BadRow")
                    self.assertIsInstance(caught.exception, CleaveError)


class Standing(unittest.TestCase):

    def test_few_rows(self):
        house = House(3, 2, [1, 1, -1])
        for row, wanted in (
            ((0, 0, 0), True), ((1, 0, 1), True), ((1, -1, 0), True), ((1, 1, 1), True), ((1, -1, -1), True),
            ((1, 0, 0), False), ((1, 1, 0), False), ((1, 1, -1), False), ((0, 0, 1), False), ((1, 0, -1), False),
        ):
            self.assertIs(stands(house, row), wanted, row)
            self.assertIs(stands(house, turn(row)), wanted, row)
            self.assertIs(stands(house, list(row)), wanted, row)

    def test_all_rows_of_small_houses(self):
        for name, house in HOUSES.items():
            if house.things() <= 4:
                wanted = standing(house)
                for row in rows_of_signs(house.things()):
                    self.assertIs(stands(house, row), row in wanted, (name, row))

    def test_rows_that_stand_are_those_square_to_all_rings(self):
        for name, house in HOUSES.items():
            if house.things() <= 5:
                self.assertEqual(all_rows(house), standing(house), name)
        for house in (spread(7, 3), of_columns([*MIXED, [2, 1]]), of_web(4, [(0, 1), (1, 2), (2, 0), (2, 3), (3, 0)])):
            self.assertEqual(all_rows(house), standing(house))

    def test_all_rows_are_those_that_stand(self):
        for house in list(FEW.values())[::6]:
            told = all_rows(house)
            self.assertIs(type(told), list)
            self.assertEqual(told, sorted(set(told)))
            for row in told:
                self.assertIs(type(row), tuple)
                self.assertIs(stands(house, row), True)

    def test_all_rows_are_cuts_behind_one_another(self):
        for name, house in list(FEW.items())[::2]:
            if house.things() > 6:
                continue
            found = {(0,) * house.things()}
            new = set(found)
            while new:
                new = {put_behind(row, cut) for row in new for cut in cuts_of(house)} - found
                found |= new
            self.assertEqual(all_rows(house), sorted(found), name)

    def test_one_behind_another_stands_again(self):
        house = of_columns([[1, 0], [0, 1], [1, 1], [0, 0], [2, -1]])
        told = all_rows(house)
        for one in told:
            self.assertIn(turn(one), told)
            for other in told:
                self.assertIn(behind(one, other), told)

    def test_edges(self):
        self.assertEqual(all_rows(House(0, 0, [1])), [()])
        self.assertIs(stands(House(0, 0, [1]), ()), True)
        for many in range(1, 8):
            self.assertEqual(all_rows(House(many, 0, [1])), [(0,) * many])
            self.assertIs(stands(House(many, 0, [1]), (0,) * (many - 1) + (1,)), False)
        for many in range(1, 8):
            self.assertEqual(all_rows(House(many, many, [1])), rows_of_signs(many))

    def test_refused(self):
        for many, house in ((0, House(0, 0, [1])), (3, House(3, 2, [1, 1, 1])), (7, spread(7, 3)), (2, House(2, 2, [1]))):
            for row in ((0,) * (many + 1), (1,) * 64, (2,) * (many or 1), (0,) * many + (9,)):
                with self.subTest(many=many, row=row), self.assertRaises(BadRow) as caught:
                    stands(house, row)
                self.assertEqual(caught.exception.word, "BadRow")
                self.assertRaises(BadRow, stands, house, list(row))
        for row in ((), (0, 0), (0, 0, 2), (-2, 0, 0), (0, 0, 0, 0), (1, 5, 1), (3, 3)):
            self.assertRaises(BadRow, stands, House(3, 2, [1, 1, 1]), row)


class Fields(unittest.TestCase):

    def test_few_houses(self):
        self.assertEqual(fields(House(3, 2, [1, 1, -1])), [
            (-1, -1, -1), (-1, 1, -1), (-1, 1, 1), (1, -1, -1), (1, -1, 1), (1, 1, 1),
        ])
        self.assertEqual(fields(of_columns([[1, 0], [0, 0], [0, 1], [0, -2]])), [
            (-1, 0, -1, 1), (-1, 0, 1, -1), (1, 0, -1, 1), (1, 0, 1, -1),
        ])

    def test_rows_that_stand_and_are_nought_at_loops_alone(self):
        for name, house in HOUSES.items():
            empty = loops_of(house)
            told = fields(house)
            self.assertIs(type(told), list)
            if house.things() <= 5:
                rows = standing(house)
            else:
                rows = all_rows(house)
            wanted = [row for row in rows if [at for at, sign in enumerate(row) if sign == 0] == empty]
            self.assertEqual(told, wanted, name)

    def test_edges(self):
        self.assertEqual(fields(House(0, 0, [1])), [()])
        for many in range(1, 8):
            self.assertEqual(fields(House(many, 0, [1])), [(0,) * many])
            self.assertEqual(fields(House(many, many, [1])), [row for row in rows_of_signs(many) if 0 not in row])
        self.assertEqual(len(fields(spread(7, 3))), 44)
        self.assertEqual(len(fields(spread(7, 2))), 14)

    def test_turned_houses_have_turned_fields(self):
        house = of_columns(MIXED)
        wanted = sorted(tuple(-sign if at in (0, 3) else sign for at, sign in enumerate(row)) for row in fields(house))
        self.assertEqual(fields(turned(house, [0, 3])), wanted)


class ManyFields(unittest.TestCase):

    def test_as_many_as_are_told(self):
        for name, house in HOUSES.items():
            self.assertEqual(many_fields(house), len(fields(house)), name)
            self.assertIs(type(many_fields(house)), int)

    def test_by_ranks_as_the_document_words_it(self):
        for name, house in FEW.items():
            if loops_of(house):
                continue
            total = 0
            for size in range(house.things() + 1):
                for lot in combinations(range(house.things()), size):
                    total += 1 if (size - rank_in(house, lot)) % 2 == 0 else -1
            self.assertEqual(many_fields(house), total, name)

    def test_loops_are_struck_first(self):
        house = of_columns(MIXED)
        self.assertEqual(many_fields(house), 6)
        self.assertEqual(many_fields(struck(struck(house, 4), 1)), 6)
        self.assertEqual(many_fields(struck(house, 1)), 6)
        for many in range(8):
            self.assertEqual(many_fields(House(many, 0, [1])), 1)

    def test_edges(self):
        for many in range(8):
            self.assertEqual(many_fields(House(many, many, [1])), 2 ** many)
        self.assertEqual(many_fields(spread(7, 1)), 2)
        self.assertEqual(many_fields(spread(7, 2)), 14)
        self.assertEqual(many_fields(spread(7, 3)), 44)
        self.assertEqual(many_fields(dual(spread(7, 3))), 84)
        self.assertEqual(many_fields(of_web(4, [(0, 1), (0, 2), (0, 3), (1, 2), (1, 3), (2, 3)])), 24)


class NothingChanges(unittest.TestCase):

    def test_what_is_handed_in_stays(self):
        house = House(3, 2, [1, 1, 1])
        for one, other in (([1, 0, -1], [0, 1, 1]), ([1, 2, 3], [0, 0, 0]), ([1], [1, 0])):
            kept = copy.deepcopy((one, other))
            for asked in (behind, is_below):
                try:
                    asked(one, other)
                except CleaveError:
                    pass
                self.assertEqual((one, other), kept)
            try:
                stands(house, one)
            except CleaveError:
                pass
            self.assertEqual((one, other), kept)

    def test_what_is_done_later_changes_nothing(self):
        one, other = [1, 0, -1], [0, 1, 1]
        told = behind(one, other)
        one[0] = other[1] = -1
        self.assertEqual(told, (1, 1, -1))

    def test_told_lists_are_new_ones(self):
        for house in (of_columns(MIXED), House(0, 0, [1]), House(2, 2, [1])):
            before = str(house)
            for asked in (all_rows, fields):
                wanted = list(asked(house))
                told = asked(house)
                told[0] = "other"
                told.append("other")
                self.assertEqual(asked(house), wanted)
                asked(house).clear()
                self.assertEqual(asked(house), wanted)
            self.assertEqual(str(house), before)

    def test_the_same_asked_again(self):
        for house in list(FEW.values())[::7]:
            self.assertEqual(all_rows(house), all_rows(house))
            self.assertEqual(many_fields(house), many_fields(house))
            self.assertEqual(rings(house), rings_of(house))


if __name__ == "__main__":
    unittest.main()
