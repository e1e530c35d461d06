"""Point 19: bases, the ring and the cut of a thing, changes; points 1 and 2 where they speak of these."""
import unittest
from itertools import product

from plain_runs import PlainBase
from sample_houses import all_houses, lots_of
from signcleave.errors import BadLot, BadThing, CleaveError, InBase, NoBase, NoChange, OutBase
from signcleave.house import House
from signcleave.makers import of_columns, of_web, spread
from signcleave.tableau import Tableau

HOUSES = all_houses()
# Bases (0, 1), (0, 2), (1, 2); thing 3 is a loop.
WITH_LOOP = of_columns([[1, 0], [0, 1], [1, 1], [0, 0]])
# Thing 0 is a bridge, 1 and 2 are of one family.
WITH_BRIDGE = of_columns([[1, 0], [0, 1], [0, -1]])


def all_bases():
    for house in HOUSES.values():
        for base in house.bases():
            yield house, base


class Telling(unittest.TestCase):

    def test_a_few_by_hand(self):
        tableau = Tableau(of_web(3, [(0, 1), (1, 2), (0, 2)]), (0, 1))
        self.assertEqual(tableau.base(), (0, 1))
        self.assertEqual(tableau.ring(2), (-1, -1, 1))
        self.assertEqual(tableau.cut(0), (1, 0, 1))
        self.assertEqual(tableau.cut(1), (0, 1, 1))
        self.assertEqual(tableau.table(), {2: (-1, -1)})
        loop = Tableau(WITH_LOOP, (0, 2))
        self.assertEqual(loop.ring(3), (0, 0, 0, 1))
        self.assertEqual(loop.table(), {1: (1, -1), 3: (0, 0)})
        bridge = Tableau(WITH_BRIDGE, (0, 2))
        self.assertEqual(bridge.cut(0), (1, 0, 0))
        self.assertEqual(bridge.ring(1), (0, 1, 1))

    def test_rings_and_cuts_of_all_bases(self):
        met = set()
        for house in HOUSES.values():
            plain = PlainBase(house)
            for base in house.bases():
                tableau = Tableau(house, base)
                for thing in range(house.things()):
                    told = tableau.cut(thing) if thing in base else tableau.ring(thing)
                    wanted = plain.cut(base, thing) if thing in base else plain.ring(base, thing)
                    self.assertEqual(told, wanted, (str(house), base, thing))
                    self.assertIs(type(told), tuple)
                    met.add((thing in base, house.things()))
                self.assertEqual(tableau.base(), base)
        self.assertEqual(met, set(product((True, False), range(1, 8))))

    def test_tables_of_all_bases(self):
        for house, base in all_bases():
            tableau = Tableau(house, base)
            told = tableau.table()
            self.assertIs(type(told), dict)
            self.assertEqual(list(told), [thing for thing in range(house.things()) if thing not in base])
            for thing, signs in told.items():
                self.assertEqual(signs, tuple(tableau.ring(thing)[other] for other in base))
                self.assertIs(type(signs), tuple)

    def test_bases_of_no_things_and_of_all(self):
        for many in range(8):
            none, full = Tableau(House(many, 0, [1]), ()), Tableau(House(many, many, [1]), tuple(range(many)))
            self.assertEqual((none.base(), full.base()), ((), tuple(range(many))))
            self.assertEqual(none.table(), {thing: () for thing in range(many)})
            self.assertEqual(full.table(), {})
            for thing in range(many):
                row = tuple(int(other == thing) for other in range(many))
                self.assertEqual(none.ring(thing), row)
                self.assertEqual(full.cut(thing), row)
                self.assertRaises(OutBase, none.cut, thing)
                self.assertRaises(InBase, full.ring, thing)

    def test_arguments_by_name(self):
        tableau = Tableau(base=(0, 1), house=spread(3, 2))
        self.assertEqual(tableau.ring(thing=2), (1, -1, 1))
        self.assertEqual(tableau.cut(thing=0), (1, 0, -1))
        self.assertIsNone(tableau.change(into=2, out=0))
        self.assertEqual(tableau.base(), (1, 2))

    def test_lists_and_tuples_alike(self):
        for house, base in ((spread(4, 2), [1, 3]), (spread(7, 7), list(range(7))), (spread(3, 0), [])):
            tableau = Tableau(house, base)
            self.assertEqual(tableau.base(), tuple(base))
            self.assertIs(type(tableau.base()), tuple)
            self.assertEqual(tableau.table(), Tableau(house, tuple(base)).table())


class Changing(unittest.TestCase):

    def test_all_changes_of_all_bases(self):
        met = set()
        for house, base in all_bases():
            bases = house.bases()
            for out, into in product(range(house.things()), repeat=2):
                tableau = Tableau(house, base)
                wanted = tuple(sorted(set(base) - {out} | {into}))
                if out not in base:
                    kind = OutBase
                elif into in base:
                    kind = InBase
                elif wanted not in bases:
                    kind = NoChange
                else:
                    self.assertIsNone(tableau.change(out, into))
                    self.assertEqual(tableau.base(), wanted)
                    met.add(None)
                    continue
                self.assertRaises(kind, tableau.change, out, into)
                self.assertEqual(tableau.base(), base)
                met.add(kind)
        self.assertEqual(met, {None, OutBase, InBase, NoChange})

    def test_what_is_told_behind_changes_is_that_of_the_base(self):
        house = of_columns([[1, 0, 2], [0, 1, -1], [1, 1, 0], [3, 0, 1], [-1, 2, 2], [0, 0, 1], [1, -2, 0]])
        tableau = Tableau(house, house.bases()[0])
        for base in house.bases():
            for out, into in zip(sorted(set(tableau.base()) - set(base)), sorted(set(base) - set(tableau.base()))):
                try:
                    tableau.change(out, into)
                except NoChange:
                    continue
            other = Tableau(house, tableau.base())
            self.assertEqual(tableau.table(), other.table())
            for thing in range(7):
                asked = ("cut" if thing in other.base() else "ring")
                self.assertEqual(getattr(tableau, asked)(thing), getattr(other, asked)(thing))

    def test_there_and_back(self):
        tableau = Tableau(spread(5, 3), (0, 1, 2))
        before = tableau.table()
        tableau.change(1, 4)
        self.assertEqual(tableau.base(), (0, 2, 4))
        tableau.change(4, 1)
        self.assertEqual((tableau.base(), tableau.table()), ((0, 1, 2), before))


class Refusals(unittest.TestCase):

    def refused(self, kind, asked, *handed):
        with self.subTest(kind=kind.__name__, handed=handed), self.assertRaises(kind) as caught:
            asked(*handed)
        self.assertEqual(caught.exception.word, kind.__name__)
        self.assertIsInstance(caught.exception, CleaveError)

    def test_lots(self):
        for house in (spread(4, 2), WITH_LOOP):
            for lot in (
                (), (0,), (0, 1, 2), (1, 0), (1, 1), (0, 4), (-1, 0), (0, 999999999), (0, 1, 2, 3), tuple(range(64)),
                (3, 3), (2, 1),
            ):
                self.refused(BadLot, Tableau, house, lot)
                self.refused(BadLot, Tableau, house, list(lot))
        self.refused(BadLot, Tableau, House(0, 0, [1]), (0,))
        self.refused(BadLot, Tableau, House(3, 3, [1]), ())
        self.refused(BadLot, Tableau, House(3, 0, [1]), (1,))

    def test_no_base(self):
        for lot in ((0, 3), (1, 3), (2, 3), [1, 3]):
            self.refused(NoBase, Tableau, WITH_LOOP, lot)
        self.refused(NoBase, Tableau, WITH_BRIDGE, (1, 2))

    def test_each_lot_is_a_base_or_refused(self):
        for house in HOUSES.values():
            for size in range(house.things() + 1):
                for lot in lots_of(house.things(), size):
                    if lot in house.bases():
                        self.assertEqual(Tableau(house, lot).base(), lot)
                    else:
                        self.refused(NoBase if size == house.rank() else BadLot, Tableau, house, lot)

    def test_things(self):
        for house, base in ((spread(4, 2), (0, 1)), (House(0, 0, [1]), ()), (spread(7, 7), tuple(range(7)))):
            tableau = Tableau(house, base)
            for thing in (-1, house.things(), house.things() + 1, 64, 999999999, -999999999):
                self.refused(BadThing, tableau.ring, thing)
                self.refused(BadThing, tableau.cut, thing)
                self.refused(BadThing, tableau.change, thing, 0)
                self.refused(BadThing, tableau.change, 0, thing)
                self.refused(BadThing, tableau.change, thing, thing)

    def test_things_inside_and_outside(self):
        tableau = Tableau(spread(4, 2), (0, 2))
        for thing in (0, 2):
            self.refused(InBase, tableau.ring, thing)
        for thing in (1, 3):
            self.refused(OutBase, tableau.cut, thing)

    def test_which_refusal_goes_first(self):
        tableau = Tableau(WITH_LOOP, (0, 1))
        self.refused(BadThing, tableau.change, 2, 4)
        self.refused(BadThing, tableau.change, 9, 0)
        self.refused(OutBase, tableau.change, 2, 0)
        self.refused(OutBase, tableau.change, 3, 3)
        self.refused(OutBase, tableau.change, 2, 3)
        self.refused(InBase, tableau.change, 0, 0)
        self.refused(InBase, tableau.change, 0, 1)
        self.refused(NoChange, tableau.change, 0, 3)
        self.assertEqual(tableau.base(), (0, 1))

    def test_changes_that_make_no_base(self):
        tableau = Tableau(WITH_BRIDGE, (0, 1))
        self.refused(NoChange, tableau.change, 0, 2)
        self.assertEqual(tableau.base(), (0, 1))
        tableau.change(1, 2)
        self.assertEqual(tableau.base(), (0, 2))


class OwnWays(unittest.TestCase):

    def test_twins(self):
        house = spread(5, 2)
        one = Tableau(house, (0, 1))
        one.change(0, 4)
        other = one.twin()
        self.assertIs(type(other), Tableau)
        self.assertEqual((other.base(), other.table()), (one.base(), one.table()))
        other.change(1, 2)
        self.assertEqual((one.base(), other.base()), ((1, 4), (2, 4)))
        one.change(4, 3)
        self.assertEqual((one.base(), other.base()), ((1, 3), (2, 4)))

    def test_what_is_handed_in_may_change_later(self):
        lot = [0, 1]
        tableau = Tableau(spread(4, 2), lot)
        self.assertEqual(lot, [0, 1])
        lot[0] = 3
        lot.append(7)
        self.assertEqual(tableau.base(), (0, 1))
        self.assertEqual(tableau.cut(0), Tableau(spread(4, 2), (0, 1)).cut(0))

    def test_a_told_table_may_be_changed(self):
        tableau = Tableau(spread(4, 2), (0, 1))
        told = tableau.table()
        kept = dict(told)
        told[2] = (0, 0)
        told.pop(3)
        self.assertEqual(tableau.table(), kept)

    def test_asking_and_refusing_change_nothing(self):
        house = spread(4, 2)
        tableau = Tableau(house, (0, 1))
        for _ in range(2):
            self.assertEqual(tableau.base(), (0, 1))
            self.assertEqual(tableau.ring(3), (1, -1, 0, 1))
            self.assertEqual(tableau.table(), {2: (1, -1), 3: (1, -1)})
            self.assertRaises(NoChange, Tableau(WITH_LOOP, (0, 1)).change, 0, 3)
            self.assertRaises(OutBase, tableau.change, 2, 3)
        self.assertEqual(house, spread(4, 2))


if __name__ == "__main__":
    unittest.main()
