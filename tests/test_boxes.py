"""Point 4: boxes and their worth; point 2 where it speaks of these."""
import copy
import inspect
import unittest
from itertools import permutations
from random import Random

from signcleave.boxes import box, box_sign
from signcleave.errors import BadBox, CleaveError

NINE = 999999999


def worth_by_ways(rows):
    """The worth as the document words it: all ways, each with the sign of its columns."""
    total = 0
    for columns in permutations(range(len(rows))):
        turned = sum(columns[at] > columns[behind] for behind in range(len(rows)) for at in range(behind))
        part = -1 if turned % 2 else 1
        for row, column in zip(rows, columns):
            part *= row[column]
        total += part
    return total


def some_boxes(many, count, bound, seed):
    """Some boxes, the same in each run of the tests."""
    chance = Random(seed)
    for _ in range(count):
        yield [[chance.randint(-bound, bound) for _ in range(many)] for _ in range(many)]


def ones(many):
    return [[1 if at == row else 0 for at in range(many)] for row in range(many)]


class Interface(unittest.TestCase):

    def test_names_stand_in_this_file(self):
        for kept in (box, box_sign):
            self.assertEqual(kept.__module__, "signcleave.boxes")
            self.assertTrue(inspect.isfunction(kept))

    def test_arguments(self):
        for kept in (box, box_sign):
            (argument,) = inspect.signature(kept).parameters.values()
            self.assertEqual(argument.name, "rows")
            self.assertEqual(argument.kind, argument.POSITIONAL_OR_KEYWORD)
            self.assertIs(argument.default, argument.empty)

    def test_arguments_by_name(self):
        self.assertEqual(box(rows=[[3]]), 3)
        self.assertEqual(box_sign(rows=[[3]]), 1)


class Worths(unittest.TestCase):

    def test_no_rows(self):
        self.assertEqual(box([]), 1)
        self.assertEqual(box(()), 1)
        self.assertEqual(box_sign([]), 1)
        self.assertEqual(box_sign(()), 1)

    def test_one_number(self):
        for number in (0, 1, -1, 7, NINE, -NINE):
            self.assertEqual(box([[number]]), number)

    def test_few_rows(self):
        self.assertEqual(box([[1, 2], [3, 4]]), -2)
        self.assertEqual(box([[3, 4], [1, 2]]), 2)
        self.assertEqual(box([[0, 1], [1, 0]]), -1)
        self.assertEqual(box([[0, 1, 0], [0, 0, 1], [1, 0, 0]]), 1)
        self.assertEqual(box([[2, 0, 1], [1, 3, -1], [0, 5, 4]]), 39)
        self.assertEqual(box([[1, 2, 3], [4, 5, 6], [7, 8, 9]]), 0)

    def test_tuples_and_lists_alike(self):
        rows = [[2, 0, 1], [1, 3, -1], [0, 5, 4]]
        for outer in (list, tuple):
            for inner in (list, tuple):
                handed = outer(inner(row) for row in rows)
                self.assertEqual(box(handed), 39)
                self.assertEqual(box_sign(handed), 1)
        self.assertEqual(box([[2, 0, 1], (1, 3, -1), [0, 5, 4]]), 39)

    def test_as_the_ways_tell_it(self):
        for many in range(7):
            for rows in some_boxes(many, 6, 9, many):
                with self.subTest(rows=rows):
                    self.assertEqual(box(rows), worth_by_ways(rows))

    def test_small_boxes_of_signs(self):
        for rows in some_boxes(4, 60, 1, 44):
            self.assertEqual(box(rows), worth_by_ways(rows))

    def test_seven_rows(self):
        for rows in some_boxes(7, 2, 9, 77):
            self.assertEqual(box(rows), worth_by_ways(rows))
        self.assertEqual(box(ones(7)), 1)
        self.assertEqual(box(ones(7)[::-1]), -1)

    def test_numbers_of_nine_figures(self):
        self.assertEqual(box([[NINE, 0], [0, NINE]]), NINE * NINE)
        self.assertEqual(box([[NINE, NINE], [-NINE, NINE]]), 2 * NINE * NINE)
        self.assertEqual(box([[NINE, NINE - 1], [NINE - 1, NINE - 2]]), -1)
        for many in (3, 5, 7):
            for rows in some_boxes(many, 1, NINE, 900 + many):
                self.assertEqual(box(rows), worth_by_ways(rows))

    def test_seven_rows_of_nine_figures_exactly(self):
        rows = [[NINE if at <= row else NINE - 1 for at in range(7)] for row in range(7)]
        self.assertEqual(box(rows), NINE)
        self.assertEqual(box_sign(rows), 1)
        rows = [[number * NINE for number in row] for row in ones(7)]
        self.assertEqual(box(rows), NINE ** 7)

    def test_numbers_greater_than_told_are_let(self):
        self.assertEqual(box([[10 ** 12, 1], [1, 10 ** 12]]), 10 ** 24 - 1)

    def test_flat_boxes(self):
        for many in range(1, 8):
            self.assertEqual(box([[0] * many for _ in range(many)]), 0)
            self.assertEqual(box_sign([[0] * many for _ in range(many)]), 0)
        for rows in some_boxes(7, 5, NINE, 5):
            rows[6] = [one - 2 * other for one, other in zip(rows[0], rows[3])]
            self.assertEqual(box(rows), 0)
            self.assertEqual(box_sign(rows), 0)
        for rows in some_boxes(5, 5, 9, 6):
            for row in rows:
                row[1] = row[4]
            self.assertEqual(box(rows), 0)

    def test_rows_in_another_order_turn_the_worth(self):
        for rows in some_boxes(5, 5, 9, 8):
            self.assertEqual(box([rows[1], rows[0], *rows[2:]]), -box(rows))
            self.assertEqual(box([list(column) for column in zip(*rows)]), box(rows))

    def test_the_worth_is_a_whole_number(self):
        for rows in ([], [[0]], [[1, 2], [3, 4]]):
            self.assertIs(type(box(rows)), int)
            self.assertIs(type(box_sign(rows)), int)


class BoxSigns(unittest.TestCase):

    def test_signs(self):
        self.assertEqual(box_sign([[5]]), 1)
        self.assertEqual(box_sign([[-5]]), -1)
        self.assertEqual(box_sign([[0]]), 0)
        self.assertEqual(box_sign([[1, 2], [3, 4]]), -1)
        self.assertEqual(box_sign([[NINE, NINE - 1], [NINE - 1, NINE - 2]]), -1)

    def test_signs_are_those_of_the_worths(self):
        for many in range(6):
            for rows in some_boxes(many, 20, 2, 60 + many):
                worth = worth_by_ways(rows)
                self.assertEqual(box_sign(rows), (worth > 0) - (worth < 0))


class Refusals(unittest.TestCase):

    def refused(self, rows):
        for kept in (box, box_sign):
            with self.subTest(rows=rows, kept=kept.__name__), self.assertRaises(BadBox) as caught:
                kept(rows)
            self.assertEqual(caught.exception.word, "BadBox")
            self.assertIsInstance(caught.exception, CleaveError)

    def test_rows_not_as_many_as_numbers_in_each(self):
        for rows in (
            [[]], [[], []], [[1, 2]], [[1], [2]], [[1, 2], [3]], [[1], [2, 3]], [[1, 2], []], ((1, 2, 3), (4, 5, 6)),
            [[1, 2, 3], [4, 5, 6], [7, 8]], [[1, 2, 3], [4, 5, 6], [7, 8, 9, 0]], [[1, 2], [3, 4], [5, 6]],
            [[0] * 7 for _ in range(6)], [[0] * 6 for _ in range(7)], [[0] * 8 for _ in range(7)],
        ):
            self.refused(rows)

    def test_more_rows_than_most(self):
        for many in (8, 9, 64):
            self.refused(ones(many))

    def test_both_wrong_at_once(self):
        self.refused([[1]] * 8)
        self.refused([[]] * 64)

    def test_seven_rows_are_not_refused(self):
        self.assertEqual(box_sign(ones(7)), 1)


class NothingChanges(unittest.TestCase):

    def test_what_is_handed_in_stays(self):
        for rows in ([[0, 2, 1], [1, 3, -1], [0, 5, 4]], [[1, 2], [3]], ones(8), ones(7), [], [[0, 0], [0, 1]]):
            kept = copy.deepcopy(rows)
            for asked in (box, box_sign):
                try:
                    asked(rows)
                except CleaveError:
                    pass
                self.assertEqual(rows, kept)

    def test_the_same_asked_again(self):
        rows = [[0, 2, 1], [1, 3, -1], [0, 5, 4]]
        told = box(rows)
        self.assertEqual(box(rows), told)
        rows[0][0] = 9
        self.assertEqual(box(rows), worth_by_ways(rows))
        rows[0][0] = 0
        self.assertEqual(box(rows), told)


if __name__ == "__main__":
    unittest.main()
