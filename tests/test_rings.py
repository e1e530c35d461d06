"""Points 7, 8 and 13 (half cuts): rows of signs, rings and cuts, rows that are square; points 1 and 2 for these."""
import copy
import unittest

from sample_houses import all_houses, both_ways, cuts_of, few_houses, rings_of, rows_of_signs, square, support, turn
from signcleave.errors import BadRow, CleaveError
from signcleave.house import House
from signcleave.makers import of_columns, of_web, spread
from signcleave.rings import are_square, cuts, half_cuts, rings

HOUSES = all_houses()


class Interface(unittest.TestCase):

    def test_arguments_by_name(self):
        house = spread(2, 1)
        self.assertEqual(rings(house=house), [(-1, 1), (1, -1)])
        self.assertEqual(cuts(house=house), [(-1, -1), (1, 1)])
        self.assertEqual(half_cuts(house=house), [(1, 1)])
        self.assertIs(are_square(other=(1, 1), one=(1, 0)), False)


class RingsAndCuts(unittest.TestCase):

    def test_few_houses(self):
        house = House(3, 2, [1, 1, -1])
        self.assertEqual(rings(house), [(-1, -1, 1), (1, 1, -1)])
        self.assertEqual(cuts(house), both_ways([(0, 1, 1), (-1, 0, -1), (-1, 1, 0)]))
        house = House(4, 2, [1] * 6)
        self.assertEqual(rings(house), both_ways([(1, -1, 1, 0), (1, -1, 0, 1), (1, 0, -1, 1), (0, 1, -1, 1)]))
        self.assertEqual(cuts(house), both_ways([(0, 1, 1, 1), (-1, 0, 1, 1), (-1, -1, 0, 1), (-1, -1, -1, 0)]))
        house = House(3, 1, [1, 0, -1])
        self.assertEqual(rings(house), [(-1, 0, -1), (0, -1, 0), (0, 1, 0), (1, 0, 1)])
        self.assertEqual(cuts(house), [(-1, 0, 1), (1, 0, -1)])

    def test_all_houses_as_the_document_words_it(self):
        for name, house in HOUSES.items():
            with self.subTest(name):
                self.assertEqual(rings(house), rings_of(house))
                self.assertEqual(cuts(house), cuts_of(house))
                self.assertEqual(half_cuts(house), [row for row in cuts_of(house) if row > (0,) * len(row)])

    def test_by_the_turned_table_they_are_the_same(self):
        for signs in ((0, 1, 1, 1, 1, 1), (1, 1, 1, 1, 1, 1), (1, 0, 1, 1, 1, -1)):
            house = House(4, 2, signs)
            self.assertEqual(rings(house), rings(House(4, 2, turn(signs))))
            self.assertEqual(cuts(house), cuts(House(4, 2, turn(signs))))

    def test_rising_each_once_with_its_opposite(self):
        for name, house in HOUSES.items():
            for told in (rings(house), cuts(house)):
                self.assertIs(type(told), list)
                self.assertEqual(told, sorted(set(told)), name)
                self.assertEqual(told, sorted(turn(row) for row in told), name)
                for row in told:
                    self.assertIs(type(row), tuple)
                    self.assertEqual(len(row), house.things())
                    self.assertTrue(any(row))
                    self.assertLessEqual(set(row), {-1, 0, 1})

    def test_each_ring_is_square_to_each_cut(self):
        for name, house in HOUSES.items():
            for ring in rings(house):
                for cut in cuts(house):
                    self.assertTrue(square(ring, cut), (name, ring, cut))
                    self.assertIs(are_square(ring, cut), True)
                    self.assertIs(are_square(cut, ring), True)

    def test_none_has_its_signs_at_just_some_things_of_another(self):
        for name, house in HOUSES.items():
            for told in (rings(house), cuts(house)):
                for one in told:
                    for other in told:
                        self.assertFalse(support(one) < support(other), (name, one, other))
                        if support(one) == support(other):
                            self.assertIn(other, (one, turn(one)))

    def test_rank_nought(self):
        for things in range(8):
            house = House(things, 0, [1])
            loops = [tuple(int(thing == at) for thing in range(things)) for at in range(things)]
            self.assertEqual(rings(house), both_ways(loops))
            self.assertEqual(cuts(house), [])
            self.assertEqual(half_cuts(house), [])

    def test_rank_as_many_as_things(self):
        for things in range(8):
            house = House(things, things, [1])
            bridges = [tuple(int(thing == at) for thing in range(things)) for at in range(things)]
            self.assertEqual(rings(house), [])
            self.assertEqual(cuts(house), both_ways(bridges))
            self.assertEqual(half_cuts(house), sorted(bridges))

    def test_loops_and_bridges(self):
        house = of_columns([[1, 0], [0, 0], [0, 1], [0, -2]])
        self.assertEqual(rings(house), both_ways([(0, 1, 0, 0), (0, 0, 1, 1)]))
        self.assertEqual(cuts(house), both_ways([(1, 0, 0, 0), (0, 0, 1, -1)]))
        self.assertEqual(half_cuts(house), [(0, 0, 1, -1), (1, 0, 0, 0)])

    def test_seven_things(self):
        house = spread(7, 3)
        self.assertEqual(len(rings(house)), 70)
        self.assertEqual(len(cuts(house)), 42)
        self.assertEqual(len(half_cuts(house)), 21)
        self.assertEqual(rings(of_web(2, [(0, 1)] * 7)), both_ways(
            [tuple({one: 1, other: -1}.get(at, 0) for at in range(7)) for one in range(7) for other in range(one)]
        ))

    def test_half_cuts_are_one_of_each_pair(self):
        for name, house in HOUSES.items():
            half = half_cuts(house)
            self.assertEqual(half, sorted(half), name)
            self.assertEqual(sorted(half + [turn(row) for row in half]), cuts(house), name)
            for row in half:
                self.assertEqual([sign for sign in row if sign][0], 1)

    def test_told_lists_are_new_ones(self):
        house = of_columns([[1, 0], [0, 0], [0, 1], [0, -2]])
        for told in (rings, cuts, half_cuts):
            wanted = list(told(house))
            told(house).clear()
            told(house).append("other")
            told(house)[0] = (0, 0, 0, 0)
            self.assertEqual(told(house), wanted)
        self.assertEqual(house, of_columns([[1, 0], [0, 0], [0, 1], [0, -2]]))

    def test_asking_changes_nothing(self):
        for house in list(few_houses().values())[::5]:
            before = str(house)
            for told in (rings, cuts, half_cuts):
                self.assertEqual(told(house), told(house))
            self.assertEqual(str(house), before)


class Square(unittest.TestCase):

    def test_few_rows(self):
        for one, other, wanted in (
            ((), (), True), ((0,), (0,), True), ((0,), (1,), True), ((1,), (1,), False), ((1,), (-1,), False),
            ((1, 1), (1, -1), True), ((1, 1), (1, 1), False), ((1, 1), (-1, -1), False), ((1, 0), (0, 1), True),
            ((1, 1, 0), (1, 0, -1), False), ((1, 1, 1), (1, -1, 0), True), ((1, -1), (1, -1), False),
        ):
            with self.subTest(one=one, other=other):
                self.assertIs(are_square(one, other), wanted)
                self.assertIs(are_square(other, one), wanted)

    def test_all_rows_of_up_to_three_signs(self):
        for many in range(4):
            for one in rows_of_signs(many):
                for other in rows_of_signs(many):
                    self.assertIs(are_square(one, other), square(one, other), (one, other))

    def test_rows_of_no_things(self):
        self.assertIs(are_square([], []), True)
        self.assertIs(are_square((), []), True)

    def test_sixty_four_signs(self):
        one = [1, -1] * 32
        self.assertIs(are_square(one, one), False)
        self.assertIs(are_square(one, [1] * 64), True)
        self.assertIs(are_square(one, [0] * 64), True)
        self.assertIs(are_square(one, [0] * 63 + [1]), False)
        self.assertIs(are_square(one, [1] + [0] * 62 + [1]), True)

    def test_lists_and_tuples_alike(self):
        for one in ([1, 0, -1], [0, 0, 0], [1, 1, 1]):
            for other in ([1, 1, 1], [1, 0, 1], [-1, 0, 1]):
                wanted = square(one, other)
                self.assertIs(are_square(one, other), wanted)
                self.assertIs(are_square(tuple(one), other), wanted)
                self.assertIs(are_square(one, tuple(other)), wanted)
                self.assertIs(are_square(tuple(one), tuple(other)), wanted)

    def test_refused(self):
        for one, other in (
            ((), (0,)), ((0,), ()), ((1, 0), (1, 0, 0)), ((1, 0, 0), (1, 0)), ((2,), (1,)), ((1,), (2,)),
            ((1,), (-2,)), ((-2, 0), (0, 0)), ((0, 0, 3), (1, 1, 1)), ((1, 1, 1), (0, 0, 999999999)),
            ((2,), (2,)), ((2, 0), (1,)), ((1,), (0, 2)), ((0,) * 64, (0,) * 63),
        ):
            for kind in (tuple, list):
                with self.subTest(one=one, other=other), self.assertRaises(BadRow) as caught:
                    are_square(kind(one), kind(other))
                self.assertEqual(caught.exception.word, "BadRow")
                self.assertIsInstance(caught.exception, CleaveError)

    def test_what_is_handed_in_stays(self):
        for one, other in (([1, 0, -1], [1, 1, 1]), ([1], [2]), ([1], [1, 1])):
            kept = copy.deepcopy((one, other))
            try:
                are_square(one, other)
            except CleaveError:
                pass
            self.assertEqual((one, other), kept)


if __name__ == "__main__":
    unittest.main()
