"""Point 18: colours, and the rings and cuts that suit them; points 1 and 2 where they speak of these."""
import unittest
from itertools import product
from random import Random

from sample_houses import all_houses, cuts_of, rings_of, rows_of_signs
from signcleave.colours import ring_or_cut, suits_cut, suits_ring
from signcleave.errors import BadColours, BadMark, BadRow, BadThing, CleaveError
from signcleave.house import House
from signcleave.makers import of_columns, of_web, spread
from signcleave.rings import cuts, rings

HOUSES = all_houses()
RING = {"+": {0, 1}, "-": {0, -1}, "*": {-1, 0, 1}, "0": {0}}
CUT = {"+": {0, 1}, "-": {0, -1}, "*": {0}, "0": {-1, 0, 1}}


def suits(row, colours, let):
    return all(sign in let[colour] for sign, colour in zip(row, colours, strict=True))


class Interface(unittest.TestCase):

    def test_arguments_by_name(self):
        self.assertIs(suits_ring(colours="+*", row=(1, -1)), True)
        self.assertIs(suits_cut(colours="+0", row=(1, -1)), True)
        self.assertEqual(ring_or_cut(mark=0, colours="++", house=House(2, 1, [1, -1])), ("ring", (1, 1)))


class Suiting(unittest.TestCase):

    def test_each_sign_with_each_colour(self):
        for sign in (-1, 0, 1):
            for colour in "+-*0":
                self.assertIs(suits_ring((sign,), colour), sign in RING[colour], (sign, colour))
                self.assertIs(suits_cut((sign,), colour), sign in CUT[colour], (sign, colour))

    def test_all_rows_and_colours_of_up_to_three_signs(self):
        for many in range(4):
            for row in rows_of_signs(many):
                for colours in product("+-*0", repeat=many):
                    text = "".join(colours)
                    self.assertIs(suits_ring(row, text), suits(row, text, RING), (row, text))
                    self.assertIs(suits_cut(row, text), suits(row, text, CUT), (row, text))

    def test_rows_of_no_things(self):
        for row in ((), []):
            self.assertIs(suits_ring(row, ""), True)
            self.assertIs(suits_cut(row, ""), True)

    def test_sixty_four_signs(self):
        row = (1, -1, -1, 0) * 16
        self.assertIs(suits_ring(row, "+-*0" * 16), True)
        self.assertIs(suits_ring(row, "+-*0" * 15 + "+-*+"), True)
        self.assertIs(suits_ring(row, "+-*0" * 15 + "+-+0"), False)
        self.assertIs(suits_cut(row, "+-0*" * 16), True)
        self.assertIs(suits_cut(row, "+-0*" * 15 + "+-*0"), False)

    def test_lists_and_tuples_alike(self):
        for row in ((1, 0, -1), (0, 0, 0), (1, 1, 1)):
            for text in ("+0-", "***", "000", "+*+"):
                self.assertIs(suits_ring(list(row), text), suits(row, text, RING))
                self.assertIs(suits_cut(list(row), text), suits(row, text, CUT))

    def refused(self, kind, row, colours):
        for asked in (suits_ring, suits_cut):
            for handed in (row, list(row)):
                with self.subTest(row=row, colours=colours), self.assertRaises(kind) as caught:
                    asked(handed, colours)
                self.assertEqual(caught.exception.word, kind.__name__)
                self.assertIsInstance(caught.exception, CleaveError)

    def test_rows_refused(self):
        for row in ((2,), (-2,), (999999999,)):
            self.refused(BadRow, row, "+")
        for row in ((0, 1, 2), (-2, 0, 0), (3, 3, 3)):
            self.refused(BadRow, row, "+-*")

    def test_colours_refused(self):
        for row, colours in (
            ((), "+"), ((0,), ""), ((0,), "++"), ((0, 1, -1), "+-"), ((0, 1, -1), "+-*0"), ((0,), "x"), ((0,), " "),
            ((0,), "1"), ((0,), "\n"), ((1, 0), "+/"), ((1, 0), "o0"), ((1, 0), "+ "), ((0,) * 64, "+" * 63),
            ((1, 1, 1), "xyz"), ((0,), "+-"), ((0, 0), "."),
        ):
            self.refused(BadColours, row, colours)

    def test_the_row_is_refused_ahead_of_the_colours(self):
        for row, colours in (((2,), ""), ((2,), "x"), ((0, 2), "+"), ((0, 2), "++x"), ((-2, 0, 0), "xyz"), ((5,), "++")):
            self.refused(BadRow, row, colours)


class RingOrCut(unittest.TestCase):

    def check_marks(self, house, colours, both):
        """Asks at each thing that may be marked; both are the rings and the cuts of the house."""
        suiting = {
            "ring": [ring for ring in both[0] if suits(ring, colours, RING)],
            "cut": [cut for cut in both[1] if suits(cut, colours, CUT)],
        }
        met = set()
        for mark in range(house.things()):
            if colours[mark] not in "+-":
                continue
            told = ring_or_cut(house, colours, mark)
            self.assertIs(type(told), tuple)
            word, row = told
            self.assertIs(type(row), tuple)
            self.assertIn(row, suiting[word], (str(house), colours, mark))
            self.assertNotEqual(row[mark], 0)
            for other in suiting["cut" if word == "ring" else "ring"]:
                self.assertEqual(other[mark], 0, (str(house), colours, mark))
            met.add((word, colours[mark]))
        return met

    def test_few_houses(self):
        house = of_web(3, [(0, 1), (1, 2), (2, 0)])
        self.assertEqual(ring_or_cut(house, "+++", 0), ("ring", (1, 1, 1)))
        self.assertEqual(ring_or_cut(house, "---", 1), ("ring", (-1, -1, -1)))
        self.assertEqual(ring_or_cut(house, "+*-", 0)[0], "cut")
        self.assertEqual(ring_or_cut(house, "+*-", 0)[1], (1, 0, -1))
        self.assertEqual(ring_or_cut(house, "+**", 0), ("ring", (1, 1, 1)))
        self.assertIn(ring_or_cut(house, "+0*", 0), [("cut", (1, -1, 0))])
        self.assertIn(ring_or_cut(house, "+00", 0), [("cut", (1, -1, 0)), ("cut", (1, 0, -1))])

    def test_all_colours_of_small_houses(self):
        met = set()
        for house in HOUSES.values():
            if house.things() > 3:
                continue
            both = (rings_of(house), cuts_of(house))
            for colours in product("+-*0", repeat=house.things()):
                met |= self.check_marks(house, "".join(colours), both)
        self.assertEqual(met, {("ring", "+"), ("ring", "-"), ("cut", "+"), ("cut", "-")})

    def test_colours_by_chance(self):
        chance = Random(15)
        for house in HOUSES.values():
            if house.things() < 4:
                continue
            both = (rings_of(house), cuts_of(house))
            for _ in range(8):
                text = "".join(chance.choice("++--*0") for _ in range(house.things()))
                self.check_marks(house, text, both)

    def test_all_colours_of_a_house_of_five_things(self):
        house = of_columns([[1, 0], [0, 1], [1, 1], [0, 0], [2, -1]])
        both = (rings_of(house), cuts_of(house))
        for colours in product("+-*0", repeat=5):
            self.check_marks(house, "".join(colours), both)

    def test_loops_and_bridges(self):
        for many in range(1, 8):
            for text in ("+" * many, "-" * many):
                for mark in range(many):
                    sign = 1 if text[0] == "+" else -1
                    row = tuple(sign if at == mark else 0 for at in range(many))
                    self.assertEqual(ring_or_cut(House(many, 0, [1]), text, mark), ("ring", row))
                    self.assertEqual(ring_or_cut(House(many, many, [1]), text, mark), ("cut", row))

    def test_colours_refused(self):
        house = House(3, 2, [1, 1, 1])
        for colours in ("", "+", "++", "++++", "++x", "+ +", "+++\n", "123", "+" * 64):
            for mark in (0, 2, 3, -1, 999999999):
                with self.subTest(colours=colours, mark=mark), self.assertRaises(BadColours) as caught:
                    ring_or_cut(house, colours, mark)
                self.assertEqual(caught.exception.word, "BadColours")
        self.assertRaises(BadColours, ring_or_cut, House(0, 0, [1]), "+", 0)

    def test_things_refused(self):
        for house, colours in ((House(3, 2, [1, 1, 1]), "+-+"), (House(3, 2, [1, 1, 1]), "*0*"), (House(0, 0, [1]), "")):
            for mark in (-1, house.things(), house.things() + 1, -3, -4, 999999999, -999999999):
                with self.subTest(colours=colours, mark=mark), self.assertRaises(BadThing) as caught:
                    ring_or_cut(house, colours, mark)
                self.assertEqual(caught.exception.word, "BadThing")

    def test_marks_refused(self):
        house = House(3, 2, [1, 1, 1])
        for colours, mark in (("*++", 0), ("0++", 0), ("+*-", 1), ("+-0", 2), ("***", 2), ("000", 1)):
            with self.subTest(colours=colours, mark=mark), self.assertRaises(BadMark) as caught:
                ring_or_cut(house, colours, mark)
            self.assertEqual(caught.exception.word, "BadMark")
            self.assertIsInstance(caught.exception, CleaveError)

    def test_the_colours_are_refused_first_then_the_thing_then_the_mark(self):
        house = House(3, 2, [1, 1, 1])
        self.assertRaises(BadColours, ring_or_cut, house, "*0", 0)
        self.assertRaises(BadColours, ring_or_cut, house, "*0x", 0)
        self.assertRaises(BadColours, ring_or_cut, house, "xxx", 9)
        self.assertRaises(BadThing, ring_or_cut, house, "***", 9)
        self.assertRaises(BadThing, ring_or_cut, house, "000", -1)
        self.assertRaises(BadMark, ring_or_cut, house, "*++", 0)


class NothingChanges(unittest.TestCase):

    def test_what_is_handed_in_stays(self):
        for row, colours in (([1, 0, -1], "+0-"), ([1, 0, 2], "+0-"), ([1, 0], "x")):
            kept = list(row)
            for asked in (suits_ring, suits_cut):
                try:
                    asked(row, colours)
                except CleaveError:
                    pass
                self.assertEqual(row, kept)

    def test_asking_changes_nothing(self):
        house = of_columns([[1, 0], [0, 1], [1, 1], [0, 0], [2, -1]])
        before = (str(house), rings(house), cuts(house))
        for mark in range(5):
            told = ring_or_cut(house, "+-++-", mark)
            self.assertEqual(ring_or_cut(house, "+-++-", mark), told)
        self.assertRaises(BadMark, ring_or_cut, house, "*****", 0)
        self.assertEqual((str(house), rings(house), cuts(house)), before)
        self.assertEqual(ring_or_cut(spread(4, 2), "++++", 0), ring_or_cut(spread(4, 2), "++++", 0))


if __name__ == "__main__":
    unittest.main()
