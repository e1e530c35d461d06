"""Points 5 and 6: tables and what makes a table a house; points 1 and 2 where they speak of these."""
import copy
import unittest
from itertools import product
from random import Random

from sample_houses import (
    column_signs, holds_a, holds_b, holds_c, is_house, lots_of, reason_holds, signs_of, some_columns, told_signs, turn,
)
from signcleave.errors import BadCount, BadTable, CleaveError
from signcleave.tables import judged


class Interface(unittest.TestCase):

    def test_arguments_by_name(self):
        self.assertEqual(judged(signs=[1, 1], rank=1, things=2), ("house", (1, 1)))


class Judging(unittest.TestCase):

    def assert_judged(self, things, rank, signs):
        told = judged(things, rank, signs)
        self.assertIs(type(told), tuple)
        if is_house(things, rank, signs):
            self.assertEqual(told, ("house", told_signs(signs)), (things, rank, signs))
            self.assertIs(type(told[1]), tuple)
        else:
            self.assertTrue(reason_holds(things, rank, signs, told), (things, rank, signs, told))
        return told[0]

    def test_all_small_tables(self):
        met = {}
        for things in range(5):
            for rank in range(things + 1):
                for signs in product((-1, 0, 1), repeat=len(lots_of(things, rank))):
                    word = self.assert_judged(things, rank, signs)
                    met[word] = met.get(word, 0) + 1
        self.assertEqual(met["none"], 15)
        self.assertGreater(met["house"], 300)
        self.assertGreater(met["exchange"] + met["three"], 300)

    def test_tables_of_columns_with_one_sign_made_another(self):
        chance = Random(5)
        met = set()
        for many, rank in [(5, 2), (5, 3), (6, 2), (6, 3), (6, 4), (7, 2), (7, 3), (7, 4), (7, 5)]:
            for bound in (1, 1, 2, 9):
                signs = column_signs(some_columns(many, rank, bound, chance))
                met.add(self.assert_judged(many, rank, signs))
                for _ in range(6):
                    changed = list(signs)
                    changed[chance.randrange(len(signs))] = chance.choice((-1, 0, 1))
                    met.add(self.assert_judged(many, rank, changed))
        self.assertEqual(met, {"house", "exchange", "three"})

    def test_tables_by_chance(self):
        chance = Random(6)
        for many, rank in [(5, 2), (5, 3), (6, 1), (6, 3), (6, 5), (7, 1), (7, 3), (7, 6)]:
            for most in (1, 2, 3, 9):
                signs = [0] * len(lots_of(many, rank))
                for _ in range(most):
                    signs[chance.randrange(len(signs))] = chance.choice((-1, 1))
                self.assert_judged(many, rank, signs)

    def test_no_sign_at_all(self):
        for things in range(8):
            for rank in range(things + 1):
                self.assertEqual(judged(things, rank, [0] * len(lots_of(things, rank))), ("none",))

    def test_exchange_broken_alone(self):
        signs = [0] * 20
        signs[0], signs[19] = 1, -1
        self.assertTrue(holds_a(6, 3, signs) and holds_c(6, 3, signs) and not holds_b(6, 3, signs))
        told = judged(6, 3, signs)
        self.assertEqual(told[0], "exchange")
        self.assertTrue(reason_holds(6, 3, signs, told))
        for swapped in (signs[::-1], turn(signs)):
            self.assertTrue(reason_holds(6, 3, swapped, judged(6, 3, swapped)))

    def test_exchange_broken_at_far_bases_alone(self):
        # Two bases that share one thing alone are in no product of (c) together.
        for one, other in (((0, 1, 2, 3), (2, 4, 5, 6)), ((0, 2, 4, 6), (1, 3, 5, 6)), ((0, 1, 2, 6), (3, 4, 5, 6))):
            signs = [1 if lot in (one, other) else 0 for lot in lots_of(7, 4)]
            self.assertTrue(holds_c(7, 4, signs) and not holds_b(7, 4, signs))
            told = judged(7, 4, signs)
            self.assertEqual(told[0], "exchange")
            self.assertTrue(reason_holds(7, 4, signs, told))

    def test_three_broken_alone(self):
        for text in ("+-++++", "++++-+", "-+----", "++-++-", "-+-+++", "+0++++", "++0++-", "0++-++"):
            signs = signs_of(text)
            self.assertTrue(holds_a(4, 2, signs) and holds_b(4, 2, signs) and not holds_c(4, 2, signs), text)
            self.assertEqual(judged(4, 2, signs), ("three", (), (0, 1, 2, 3)))

    def test_three_broken_about_a_lot(self):
        signs = [1] * 10
        signs[4] = -1
        self.assertTrue(holds_b(5, 3, signs) and not holds_c(5, 3, signs))
        told = judged(5, 3, signs)
        self.assertEqual(told[0], "three")
        self.assertEqual(len(told[1]), 1)
        self.assertTrue(reason_holds(5, 3, signs, told))

    def test_three_broken_for_seven_things(self):
        for rank in (2, 3, 4, 5):
            lots = lots_of(7, rank)
            for place in range(len(lots)):
                signs = [1] * len(lots)
                signs[place] = -1
                word = judged(7, rank, signs)[0]
                self.assertEqual(word == "house", is_house(7, rank, signs), (rank, place))

    def test_both_broken(self):
        signs = signs_of("+0000+")
        self.assertFalse(holds_b(4, 2, signs) or holds_c(4, 2, signs))
        self.assertTrue(reason_holds(4, 2, signs, judged(4, 2, signs)))

    def test_houses(self):
        self.assertEqual(judged(0, 0, [1]), ("house", (1,)))
        self.assertEqual(judged(0, 0, [-1]), ("house", (1,)))
        self.assertEqual(judged(7, 0, [-1]), ("house", (1,)))
        self.assertEqual(judged(7, 7, [1]), ("house", (1,)))
        self.assertEqual(judged(3, 1, [0, -1, 1]), ("house", (0, 1, -1)))
        self.assertEqual(judged(4, 2, [1] * 6), ("house", (1,) * 6))
        self.assertEqual(judged(7, 3, [1] * 35), ("house", (1,) * 35))
        self.assertEqual(judged(7, 6, [0, 0, 1, -1, 0, 1, 1])[0], "house")

    def test_rank_one_and_one_less_than_things_are_houses_where_not_all_nought(self):
        for things in (1, 3, 5):
            for signs in product((-1, 0, 1), repeat=things):
                for rank in (1, things - 1):
                    if len(lots_of(things, rank)) == things and any(signs):
                        self.assertEqual(judged(things, rank, signs), ("house", told_signs(signs)))

    def test_a_table_and_the_turned_one_are_one_house(self):
        chance = Random(7)
        for many, rank in [(4, 2), (5, 3), (7, 3), (7, 4)]:
            for bound in (1, 3):
                signs = column_signs(some_columns(many, rank, bound, chance))
                told = judged(many, rank, signs)
                self.assertEqual(told, judged(many, rank, turn(signs)))
                self.assertEqual([sign for sign in told[1] if sign][0], 1)
                self.assertIn(told[1], (tuple(signs), turn(signs)))

    def test_lists_and_tuples_alike(self):
        for signs in ([1, 0, 1, -1, 0, 1], [-1] * 6, [0] * 6, [1, 0, 0, 0, 0, 1]):
            self.assertEqual(judged(4, 2, signs), judged(4, 2, tuple(signs)))


class Refusals(unittest.TestCase):

    def refused(self, kind, *handed):
        with self.subTest(handed=handed), self.assertRaises(kind) as caught:
            judged(*handed)
        self.assertEqual(caught.exception.word, kind.__name__)
        self.assertIsInstance(caught.exception, CleaveError)

    def test_counts(self):
        for things in (-999999999, -1, 8, 9, 64, 999999999):
            for rank in (0, 1, 3):
                self.refused(BadCount, things, rank, [1])
        for things in range(8):
            for rank in (-999999999, -2, -1, things + 1, things + 2, 64, 999999999):
                self.refused(BadCount, things, rank, [1])

    def test_another_count_of_signs(self):
        for things in range(8):
            for rank in range(things + 1):
                right = len(lots_of(things, rank))
                for wrong in {0, right - 1, right + 1, 64 + right} - {right}:
                    self.refused(BadTable, things, rank, [1] * wrong)

    def test_things_that_are_no_sign(self):
        for wrong in (2, -2, 3, 10, 999999999, -999999999):
            for place in range(6):
                signs = [1, 1, 1, 1, 1, 1]
                signs[place] = wrong
                self.refused(BadTable, 4, 2, signs)
                self.refused(BadTable, 4, 2, tuple(signs))
        self.refused(BadTable, 0, 0, [2])
        self.refused(BadTable, 2, 1, [0, -2])

    def test_the_count_is_refused_ahead_of_the_table(self):
        for things, rank in ((8, 0), (-1, 0), (3, 4), (3, -1), (8, 9), (-1, -1)):
            for signs in ([], [2], [1, 1], [5] * 20):
                self.refused(BadCount, things, rank, signs)

    def test_a_bad_table_is_refused_though_it_is_no_house(self):
        self.refused(BadTable, 4, 2, [0, 0, 0, 0, 0])
        self.refused(BadTable, 4, 2, [0, 0, 0, 0, 0, 2])
        self.refused(BadTable, 4, 2, [1, 2, 0, 0, 0, 1])


class NothingChanges(unittest.TestCase):

    def test_what_is_handed_in_stays(self):
        for handed in ((4, 2, [-1] * 6), (4, 2, [0] * 6), (4, 2, [1, 0, 0, 0, 0, 1]), (4, 2, [2]), (9, 2, [1])):
            kept = copy.deepcopy(handed)
            try:
                judged(*handed)
            except CleaveError:
                pass
            self.assertEqual(handed, kept)

    def test_what_is_done_later_changes_nothing(self):
        signs = [1, 1, 1]
        told = judged(3, 2, signs)
        signs[0] = -1
        self.assertEqual(told, ("house", (1, 1, 1)))
        self.assertEqual(judged(3, 2, signs), ("house", (1, -1, -1)))

    def test_the_same_asked_again(self):
        for signs in ([1, 0, 0, 0, 0, 1], [1, -1, 1, 1, 1, 1], [1] * 6):
            self.assertEqual(judged(4, 2, signs), judged(4, 2, signs))


if __name__ == "__main__":
    unittest.main()
