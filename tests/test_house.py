"""Points 5 and 6 and the class House; points 1 and 2 where they speak of these."""
import inspect
import unittest
from itertools import permutations, product

from sample_houses import (
    all_houses, bases_in, is_house, lots_of, reason_holds, row_sign, signs_of, table_of, told_signs, turn,
)
from signcleave.errors import BadCount, BadLot, BadTable, CleaveError, NoHouse
from signcleave.house import House
from signcleave.tables import judged

HOUSES = all_houses()


class Interface(unittest.TestCase):

    def test_the_class_stands_in_this_file(self):
        self.assertEqual(House.__module__, "signcleave.house")
        self.assertTrue(inspect.isclass(House))

    def test_methods_are_defined_in_the_class_itself(self):
        for name in ("things", "rank", "signs", "sign", "bases", "__len__", "__eq__", "__repr__", "__str__"):
            self.assertTrue(inspect.isfunction(vars(House)[name]), name)

    def test_arguments(self):
        for kept, names in (
            (House.__init__, ["self", "things", "rank", "signs"]), (House.sign, ["self", "row"]),
            (House.things, ["self"]), (House.rank, ["self"]), (House.signs, ["self"]), (House.bases, ["self"]),
        ):
            told = inspect.signature(kept).parameters
            self.assertEqual(list(told), names)
            for argument in told.values():
                self.assertEqual(argument.kind, argument.POSITIONAL_OR_KEYWORD)
                self.assertIs(argument.default, argument.empty)

    def test_arguments_by_name(self):
        house = House(signs=[1, -1], rank=1, things=2)
        self.assertEqual(house.sign(row=[1]), -1)


class Telling(unittest.TestCase):

    def test_counts(self):
        house = House(4, 2, [1] * 6)
        self.assertEqual((house.things(), house.rank(), len(house)), (4, 2, 4))
        for things in range(8):
            for rank in (0, things):
                house = House(things, rank, [1])
                self.assertEqual((house.things(), house.rank(), len(house)), (things, rank, things))

    def test_signs_are_the_told_ones(self):
        self.assertEqual(House(3, 2, [0, -1, 1]).signs(), (0, 1, -1))
        self.assertEqual(House(3, 2, [0, 1, -1]).signs(), (0, 1, -1))
        for name, house in HOUSES.items():
            for signs in (house.signs(), turn(house.signs()), list(house.signs())):
                again = House(house.things(), house.rank(), signs)
                self.assertEqual(again.signs(), told_signs(signs), name)
                self.assertIs(type(again.signs()), tuple)
                self.assertEqual(again, house)

    def test_all_small_tables(self):
        for signs in product((-1, 0, 1), repeat=6):
            if is_house(4, 2, signs):
                self.assertEqual(House(4, 2, signs).signs(), told_signs(signs))
            else:
                self.assertRaises(NoHouse, House, 4, 2, signs)

    def test_bases(self):
        self.assertEqual(House(3, 2, [0, -1, 1]).bases(), [(0, 2), (1, 2)])
        self.assertEqual(House(5, 0, [1]).bases(), [()])
        self.assertEqual(House(3, 3, [1]).bases(), [(0, 1, 2)])
        for name, house in HOUSES.items():
            table = table_of(house.things(), house.rank(), house.signs())
            self.assertEqual(house.bases(), sorted(bases_in(table)), name)
            self.assertIs(type(house.bases()), list)
            for base in house.bases():
                self.assertIs(type(base), tuple)

    def test_signs_of_rows(self):
        house = House(4, 2, signs_of("-0---+"))
        self.assertEqual(house.signs(), signs_of("+0+++-"))
        for row, sign in (
            ((0, 1), 1), ((1, 0), -1), ((0, 2), 0), ((2, 0), 0), ((1, 2), 1), ((2, 1), -1), ((3, 2), 1), ((1, 1), 0),
        ):
            self.assertEqual(house.sign(row), sign)
            self.assertEqual(house.sign(list(row)), sign)

    def test_all_rows_of_all_houses(self):
        for name, house in HOUSES.items():
            things, rank = house.things(), house.rank()
            if rank > 4:
                continue
            table = table_of(things, rank, house.signs())
            for row in product(range(things), repeat=rank):
                wanted = row_sign(row) * table.get(tuple(sorted(row)), 0)
                self.assertEqual(house.sign(row), wanted, (name, row))

    def test_rows_of_many_things_in_any_order(self):
        house = House(7, 6, [1, -1, 0, 1, 1, -1, 1])
        for place, lot in enumerate(lots_of(7, 6)):
            for row in list(permutations(lot))[::37]:
                self.assertEqual(house.sign(row), row_sign(row) * house.signs()[place])
        self.assertEqual(house.sign((0, 1, 2, 3, 4, 4)), 0)

    def test_the_row_of_no_things(self):
        for things in range(8):
            self.assertEqual(House(things, 0, [-1]).sign(()), 1)
            self.assertEqual(House(things, 0, [1]).sign([]), 1)

    def test_a_sign_is_a_whole_number(self):
        for row in ((0, 1), (1, 0), (1, 1)):
            self.assertIs(type(House(3, 2, [1, 1, 1]).sign(row)), int)

    def test_texts(self):
        self.assertEqual(repr(House(4, 2, [1] * 6)), "House(4 things, rank 2)")
        self.assertEqual(repr(House(0, 0, [1])), "House(0 things, rank 0)")
        self.assertEqual(repr(House(1, 1, [1])), "House(1 things, rank 1)")
        self.assertEqual(str(House(4, 2, [1] * 6)), "4 2 ++++++")
        self.assertEqual(str(House(3, 2, [0, -1, 1])), "3 2 0+-")
        self.assertEqual(str(House(0, 0, [-1])), "0 0 +")
        self.assertEqual(str(House(7, 7, [1])), "7 7 +")
        for name, house in HOUSES.items():
            things, rank, signs = str(house).split(" ")
            self.assertEqual(House(int(things), int(rank), signs_of(signs)), house, name)
            self.assertEqual(signs_of(signs), house.signs())
            self.assertEqual(repr(house), f"House({things} things, rank {rank})")


class Alike(unittest.TestCase):

    def test_same_things_rank_and_told_signs(self):
        self.assertEqual(House(3, 2, [1, -1, 0]), House(3, 2, (-1, 1, 0)))
        self.assertFalse(House(3, 2, [1, -1, 0]) != House(3, 2, (-1, 1, 0)))
        self.assertIs(House(3, 2, [1, 1, 1]) == House(3, 2, [1, 1, 1]), True)

    def test_other_signs(self):
        self.assertNotEqual(House(3, 2, [1, -1, 0]), House(3, 2, [1, 1, 0]))
        self.assertNotEqual(House(3, 2, [1, -1, 0]), House(3, 2, [1, 0, 0]))

    def test_other_counts_with_the_same_signs(self):
        self.assertNotEqual(House(3, 1, [1, 1, 1]), House(3, 2, [1, 1, 1]))
        self.assertNotEqual(House(2, 0, [1]), House(2, 2, [1]))
        self.assertNotEqual(House(0, 0, [1]), House(1, 0, [1]))
        self.assertNotEqual(House(5, 0, [1]), House(6, 0, [1]))

    def test_nothing_else_is_alike(self):
        house = House(3, 2, [1, 1, 1])
        for other in (None, 3, "3 2 +++", (3, 2, (1, 1, 1)), [1, 1, 1], (1, 1, 1), {}, object(), House):
            self.assertIs(house == other, False)
            self.assertIs(other == house, False)
            self.assertIs(house != other, True)

    def test_all_houses_by_their_texts(self):
        kept = list(HOUSES.values())[:90]
        for one in kept:
            for other in kept:
                self.assertEqual(one == other, str(one) == str(other))


class Refusals(unittest.TestCase):

    def test_counts_ahead_of_the_table(self):
        for things, rank in ((8, 0), (-1, 0), (3, 4), (3, -1), (0, 1), (999999999, 0), (8, 9)):
            for signs in ([1], [], [2], [0]):
                with self.subTest(things=things, rank=rank, signs=signs), self.assertRaises(BadCount) as caught:
                    House(things, rank, signs)
                self.assertEqual(caught.exception.word, "BadCount")

    def test_tables(self):
        for signs in ([], [1] * 5, [1] * 7, [0] * 5, [1, 1, 1, 1, 1, 2], [0, 0, 0, 0, 0, -2], [3, 0, 0, 0, 0, 1]):
            with self.subTest(signs=signs), self.assertRaises(BadTable) as caught:
                House(4, 2, signs)
            self.assertEqual(caught.exception.word, "BadTable")

    def test_no_house_and_why(self):
        six = [0] * 20
        six[0] = six[19] = 1
        for things, rank, signs in (
            (4, 2, signs_of("000000")), (4, 2, signs_of("+0000+")), (4, 2, signs_of("+-++++")), (6, 3, six), (0, 0, [0]),
            (5, 3, [1, 1, 1, 1, -1, 1, 1, 1, 1, 1]), (7, 7, [0]),
        ):
            with self.subTest(signs=signs), self.assertRaises(NoHouse) as caught:
                House(things, rank, signs)
            self.assertEqual(caught.exception.word, "NoHouse")
            self.assertIsInstance(caught.exception, CleaveError)
            self.assertEqual(caught.exception.why, judged(things, rank, signs))
            self.assertTrue(reason_holds(things, rank, signs, caught.exception.why))

    def test_each_reason_is_true_of_the_table(self):
        for signs in product((-1, 0, 1), repeat=6):
            if not is_house(4, 2, signs):
                with self.assertRaises(NoHouse) as caught:
                    House(4, 2, signs)
                self.assertTrue(reason_holds(4, 2, signs, caught.exception.why))

    def test_rows_that_have_no_sign(self):
        house = House(4, 2, [1] * 6)
        for row in (
            (), (0,), (0, 1, 2), (0, 0, 0), (0, 4), (4, 0), (-1, 0), (0, -1), (4, 4), (-1, -1), (999999999, 1), (4,),
            tuple(range(64)), (0, -4), (-4, 3),
        ):
            for kind in (tuple, list):
                with self.subTest(row=row), self.assertRaises(BadLot) as caught:
                    house.sign(kind(row))
                self.assertEqual(caught.exception.word, "BadLot")

    def test_rows_of_houses_at_the_edges(self):
        self.assertRaises(BadLot, House(0, 0, [1]).sign, (0,))
        self.assertRaises(BadLot, House(7, 0, [1]).sign, (0,))
        self.assertRaises(BadLot, House(7, 7, [1]).sign, (0, 1, 2, 3, 4, 5))
        self.assertRaises(BadLot, House(7, 7, [1]).sign, (0, 1, 2, 3, 4, 5, 7))


class NothingChanges(unittest.TestCase):

    def test_signs_handed_in_stay_and_may_change_later(self):
        signs = [-1, 1, 0]
        house = House(3, 2, signs)
        self.assertEqual(signs, [-1, 1, 0])
        signs[0] = 0
        signs.append(1)
        self.assertEqual(house.signs(), (1, -1, 0))
        self.assertEqual(house.sign((0, 1)), 1)
        self.assertEqual(house.bases(), [(0, 1), (0, 2)])
        self.assertEqual(str(house), "3 2 +-0")

    def test_refused_signs_stay(self):
        for signs in ([0, 0, 0], [1, 2, 3], [1]):
            kept = list(signs)
            self.assertRaises(CleaveError, House, 3, 2, signs)
            self.assertEqual(signs, kept)

    def test_told_bases_are_a_new_list(self):
        house = House(3, 2, [1, 1, 1])
        told = house.bases()
        told.clear()
        self.assertEqual(house.bases(), [(0, 1), (0, 2), (1, 2)])
        house.bases()[0] = "other"
        self.assertEqual(house.bases(), [(0, 1), (0, 2), (1, 2)])
        self.assertEqual(house, House(3, 2, [1, 1, 1]))

    def test_rows_handed_in_stay(self):
        house = House(3, 2, [1, 1, 1])
        row = [2, 0]
        self.assertEqual(house.sign(row), -1)
        self.assertEqual(row, [2, 0])

    def test_asking_changes_nothing(self):
        house = House(4, 2, signs_of("+0+++-"))
        before = str(house)
        for _ in range(2):
            self.assertEqual(house.sign((1, 0)), -1)
            self.assertRaises(BadLot, house.sign, (0, 9))
            self.assertEqual(house.signs(), signs_of("+0+++-"))
            self.assertEqual(str(house), before)


if __name__ == "__main__":
    unittest.main()
