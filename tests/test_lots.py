"""Point 3: things, lots, their order, and the sign of a row; point 2 where it speaks of these."""
import inspect
import unittest
from itertools import permutations

from signcleave import lots as module
from signcleave.errors import BadCount, BadLot, CleaveError
from signcleave.lots import MOST, lots, order_sign, place_of

COUNTS = range(8)


def lots_by_choice(many, size):
    """All lots, by taking or leaving each thing, put in the order of tuples."""
    found = []
    for mask in range(2 ** many):
        lot = tuple(thing for thing in range(many) if mask >> thing & 1)
        if len(lot) == size:
            found.append(lot)
    return sorted(found)


def sign_by_pairs(row):
    """The sign of a row as the document words it."""
    if len(set(row)) < len(row):
        return 0
    pairs = sum(row[at] > row[behind] for behind in range(len(row)) for at in range(behind))
    return 1 if pairs % 2 == 0 else -1


class Interface(unittest.TestCase):

    def test_most(self):
        self.assertEqual(MOST, 7)
        self.assertIs(type(MOST), int)

    def test_names_stand_in_this_file(self):
        for kept in (lots, place_of, order_sign):
            self.assertEqual(kept.__module__, "signcleave.lots")
            self.assertTrue(inspect.isfunction(kept))
        self.assertEqual(module.MOST, 7)

    def test_arguments(self):
        wanted = {lots: ["many", "size"], place_of: ["lot", "many"], order_sign: ["row"]}
        for kept, names in wanted.items():
            told = inspect.signature(kept).parameters
            self.assertEqual(list(told), names)
            for argument in told.values():
                self.assertEqual(argument.kind, argument.POSITIONAL_OR_KEYWORD)
                self.assertIs(argument.default, argument.empty)

    def test_arguments_by_name(self):
        self.assertEqual(lots(size=1, many=2), [(0,), (1,)])
        self.assertEqual(place_of(many=3, lot=(0, 2)), 1)
        self.assertEqual(order_sign(row=[1, 0]), -1)


class Lots(unittest.TestCase):

    def test_in_the_order_of_tuples(self):
        self.assertEqual(lots(4, 2), [(0, 1), (0, 2), (0, 3), (1, 2), (1, 3), (2, 3)])
        self.assertEqual(lots(3, 1), [(0,), (1,), (2,)])
        self.assertEqual(lots(4, 3), [(0, 1, 2), (0, 1, 3), (0, 2, 3), (1, 2, 3)])

    def test_all_counts_and_sizes(self):
        for many in COUNTS:
            for size in range(many + 1):
                with self.subTest(many=many, size=size):
                    self.assertEqual(lots(many, size), lots_by_choice(many, size))

    def test_the_lot_of_no_things(self):
        for many in COUNTS:
            self.assertEqual(lots(many, 0), [()])

    def test_the_lot_of_all_things(self):
        for many in COUNTS:
            self.assertEqual(lots(many, many), [tuple(range(many))])

    def test_a_list_of_tuples_of_numbers(self):
        told = lots(7, 3)
        self.assertIs(type(told), list)
        for lot in told:
            self.assertIs(type(lot), tuple)
            for thing in lot:
                self.assertIs(type(thing), int)

    def test_too_few_or_too_many_things(self):
        for many in (-999999999, -2, -1, 8, 9, 64, 999999999):
            for size in (0, 1, 3):
                with self.subTest(many=many, size=size), self.assertRaises(BadCount) as caught:
                    lots(many, size)
                self.assertEqual(caught.exception.word, "BadCount")
                self.assertIsInstance(caught.exception, CleaveError)

    def test_sizes_that_no_lot_has(self):
        for many in COUNTS:
            for size in (-999999999, -2, -1, many + 1, many + 2, 8, 64, 999999999):
                with self.subTest(many=many, size=size), self.assertRaises(BadCount):
                    lots(many, size)

    def test_both_counts_wrong_at_once(self):
        for many, size in ((8, 9), (8, -1), (-1, 0), (-1, -1), (-1, -2), (9, 9)):
            with self.subTest(many=many, size=size), self.assertRaises(BadCount):
                lots(many, size)

    def test_a_told_list_is_a_new_one(self):
        for many, size in ((4, 2), (3, 0), (7, 7)):
            wanted = lots_by_choice(many, size)
            told = lots(many, size)
            told[0] = "other"
            told.append((9, 9))
            self.assertEqual(lots(many, size), wanted)
            self.assertIsNot(lots(many, size), lots(many, size))
            told.clear()
            self.assertEqual(lots(many, size), wanted)

    def test_a_changed_list_leaves_places_as_they_are(self):
        lots(5, 2).reverse()
        self.assertEqual(place_of((0, 1), 5), 0)
        self.assertEqual(place_of((3, 4), 5), 9)

    def test_a_refusal_changes_nothing(self):
        with self.assertRaises(BadCount):
            lots(3, 4)
        self.assertEqual(lots(3, 3), [(0, 1, 2)])


class Places(unittest.TestCase):

    def test_all_lots(self):
        for many in COUNTS:
            for size in range(many + 1):
                for place, lot in enumerate(lots_by_choice(many, size)):
                    self.assertEqual(place_of(lot, many), place)
                    self.assertEqual(place_of(list(lot), many), place)

    def test_some_places(self):
        self.assertEqual(place_of((0, 1), 4), 0)
        self.assertEqual(place_of((1, 2), 4), 3)
        self.assertEqual(place_of((2, 3), 4), 5)
        self.assertEqual(place_of((4, 5, 6), 7), 34)
        self.assertIs(type(place_of((2, 3), 4)), int)

    def test_the_lot_of_no_things(self):
        for many in COUNTS:
            self.assertEqual(place_of((), many), 0)
            self.assertEqual(place_of([], many), 0)

    def test_the_lot_of_all_things(self):
        for many in COUNTS:
            self.assertEqual(place_of(tuple(range(many)), many), 0)

    def test_things_that_make_no_lot(self):
        wrong = [
            ((1, 0), 4), ((0, 2, 1), 4), ((3, 2, 1, 0), 4),      # not rising
            ((1, 1), 4), ((0, 0, 1), 4), ((0, 1, 1), 4),         # a thing twice
            ((4,), 4), ((0, 4), 4), ((7,), 7), ((0, 999999999), 7), ((0,), 0),
            ((-1,), 4), ((-1, 0), 4), ((-2, -1), 7), ((-999999999, 3), 7),
            ((0, 1, 2, 3, 4), 4), ((0, 1, 2, 3, 4, 5, 6, 7), 7), (tuple(range(64)), 7), ((0, 0), 1), ((0, 1), 1),
        ]
        for lot, many in wrong:
            for kind in (tuple, list):
                with self.subTest(lot=lot, many=many), self.assertRaises(BadLot) as caught:
                    place_of(kind(lot), many)
                self.assertEqual(caught.exception.word, "BadLot")

    def test_every_other_row_of_things_is_no_lot(self):
        for row in permutations(range(4), 3):
            if row == tuple(sorted(row)):
                self.assertEqual(place_of(row, 4), lots_by_choice(4, 3).index(row))
            else:
                self.assertRaises(BadLot, place_of, row, 4)

    def test_too_few_or_too_many_things(self):
        for many in (-999999999, -1, 8, 9, 999999999):
            for lot in ((), (0,), (0, 1), [2]):
                with self.subTest(lot=lot, many=many), self.assertRaises(BadCount):
                    place_of(lot, many)

    def test_the_count_is_refused_ahead_of_the_lot(self):
        for many in (-1, 8, 64):
            for lot in ((1, 0), (0, 0), (99,), (-1,), tuple(range(9))):
                with self.subTest(lot=lot, many=many), self.assertRaises(BadCount):
                    place_of(lot, many)

    def test_what_is_handed_in_stays(self):
        for lot, many in (([0, 2], 4), ([2, 0], 4), ([0, 1], 9), ([5], 4)):
            kept = list(lot)
            try:
                place_of(lot, many)
            except CleaveError:
                pass
            self.assertEqual(lot, kept)

    def test_what_is_done_later_changes_nothing(self):
        lot = [0, 1]
        self.assertEqual(place_of(lot, 4), 0)
        lot[1] = 3
        self.assertEqual(place_of((0, 1), 4), 0)
        self.assertEqual(place_of(lot, 4), 2)


class Signs(unittest.TestCase):

    def test_few_numbers(self):
        for row, sign in (
            ([], 1), ([0], 1), ([5], 1), ([-3], 1), ([0, 1], 1), ([1, 0], -1), ([0, 0], 0),
            ([0, 1, 2], 1), ([1, 0, 2], -1), ([1, 2, 0], 1), ([2, 1, 0], -1), ([2, 0, 1], 1), ([0, 2, 1], -1),
            ([3, 2, 1, 0], 1), ([1, 2, 1], 0), ([2, 2, 2], 0),
        ):
            with self.subTest(row=row):
                self.assertEqual(order_sign(row), sign)
                self.assertEqual(order_sign(tuple(row)), sign)

    def test_all_rows_of_four_things(self):
        for size in range(5):
            for row in ([],) if size == 0 else permutations(range(4), size):
                self.assertEqual(order_sign(row), sign_by_pairs(row))

    def test_all_rows_with_and_without_things_twice(self):
        for first in range(-1, 3):
            for second in range(-1, 3):
                for third in range(-1, 3):
                    row = (first, second, third)
                    self.assertEqual(order_sign(row), sign_by_pairs(row))

    def test_numbers_below_nought(self):
        self.assertEqual(order_sign([-1, -2]), -1)
        self.assertEqual(order_sign([-2, -1]), 1)
        self.assertEqual(order_sign([-1, 0, -2]), 1)
        self.assertEqual(order_sign([1, -1]), -1)
        self.assertEqual(order_sign([-5, -5]), 0)
        self.assertEqual(order_sign([-1, 1]), 1)

    def test_numbers_of_nine_figures(self):
        self.assertEqual(order_sign([999999999, -999999999]), -1)
        self.assertEqual(order_sign([999999998, 999999999]), 1)
        self.assertEqual(order_sign([999999999, 0, 999999999]), 0)

    def test_a_number_twice_at_any_places(self):
        for one in range(6):
            for other in range(one):
                row = [10, 3, 7, -2, 5, 0]
                row[one] = row[other]
                self.assertEqual(order_sign(row), 0)

    def test_sixty_four_unlike_numbers(self):
        rising = list(range(64))
        self.assertEqual(order_sign(rising), 1)
        self.assertEqual(order_sign(rising[::-1]), 1)
        self.assertEqual(order_sign(rising[:63][::-1]), -1)
        for at in range(63):
            turned = list(rising)
            turned[at], turned[at + 1] = turned[at + 1], turned[at]
            self.assertEqual(order_sign(turned), -1)
        mixed = [number * 27 % 64 - 31 for number in range(64)]
        self.assertEqual(len(set(mixed)), 64)
        self.assertEqual(order_sign(mixed), sign_by_pairs(mixed))
        self.assertEqual(order_sign(mixed[:-1] + [mixed[0]]), 0)

    def test_a_sign_is_a_whole_number(self):
        for row in ([], [0], [1, 0], [0, 0]):
            self.assertIs(type(order_sign(row)), int)

    def test_what_is_handed_in_stays(self):
        for row in ([3, 1, 2], [2, 2], []):
            kept = list(row)
            order_sign(row)
            self.assertEqual(row, kept)


if __name__ == "__main__":
    unittest.main()
