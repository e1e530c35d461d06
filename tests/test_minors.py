"""Points 10, 11 and 12: houses made of others; points 1, 2, 5 and 7 where they speak of these."""
import copy
import unittest
from itertools import combinations, permutations, product
from random import Random

from sample_houses import (
    all_houses, both_ways, cuts_of, few_houses, is_house, lots_of, read, rings_of, row_sign, signs_of, some_columns,
    table_of, told_signs, turn,
)
from signcleave.errors import BadOrder, BadThing, CleaveError, HouseError, TooMany
from signcleave.flats import bridges, loops
from signcleave.house import House
from signcleave.makers import of_columns, of_web, spread
from signcleave.minors import beside, drawn, dual, moved, struck, turned
from signcleave.rings import cuts, rings

HOUSES = all_houses()
FEW = few_houses()
MIXED = [[1, 0], [0, 0], [0, 1], [0, -2], [0, 0], [0, 3]]


def without(row, thing):
    return row[:thing] + row[thing + 1:]


def nought_at(rows, thing):
    """The rows that are nought at a thing, without it."""
    return sorted(without(row, thing) for row in rows if row[thing] == 0)


def old_lot(lot, gone):
    return tuple(thing + (thing >= gone) for thing in lot)


def struck_signs(house, gone):
    """The signs of the house struck of a thing that is no bridge, as point 11 words it."""
    table = table_of(house.things(), house.rank(), house.signs())
    return [table[old_lot(lot, gone)] for lot in lots_of(house.things() - 1, house.rank())]


def drawn_signs(house, gone):
    """The signs of the house drawn away of a thing that is no loop, as point 11 words it."""
    table = table_of(house.things(), house.rank(), house.signs())
    return [read(table, (*old_lot(lot, gone), gone)) for lot in lots_of(house.things() - 1, house.rank() - 1)]


class Interface(unittest.TestCase):

    def test_arguments_by_name(self):
        house = spread(3, 2)
        self.assertEqual(dual(house=house), dual(house))
        self.assertEqual(struck(thing=1, house=house), struck(house, 1))
        self.assertEqual(drawn(thing=1, house=house), drawn(house, 1))
        self.assertEqual(turned(things=[1], house=house), turned(house, [1]))
        self.assertEqual(moved(order=(1, 0, 2), house=house), moved(house, (1, 0, 2)))
        self.assertEqual(beside(other=spread(1, 0), one=house), beside(house, spread(1, 0)))

    def test_all_make_houses_of_the_class(self):
        house = spread(3, 2)
        for made in (dual(house), struck(house, 0), drawn(house, 0), turned(house, [0]), moved(house, (1, 0, 2)),
                     beside(house, house)):
            self.assertIs(type(made), House)


class Duals(unittest.TestCase):

    def test_few_houses(self):
        self.assertEqual(dual(House(3, 2, [1, 1, 1])), House(3, 1, [1, -1, 1]))
        self.assertEqual(dual(House(2, 1, [1, 1])), House(2, 1, [1, -1]))
        self.assertEqual(dual(House(4, 2, [1] * 6)), House(4, 2, [1, -1, 1, 1, -1, 1]))

    def test_edges(self):
        for many in range(8):
            self.assertEqual(dual(House(many, 0, [1])), House(many, many, [1]))
            self.assertEqual(dual(House(many, many, [1])), House(many, 0, [1]))

    def test_signs_as_the_document_words_it(self):
        for name, house in HOUSES.items():
            many, rank = house.things(), house.things() - house.rank()
            table = table_of(many, house.rank(), house.signs())
            signs = []
            for lot in lots_of(many, rank):
                others = tuple(thing for thing in range(many) if thing not in lot)
                signs.append(table[others] * row_sign(lot + others))
            told = dual(house)
            self.assertEqual((told.things(), told.rank()), (many, rank), name)
            self.assertEqual(told.signs(), told_signs(signs), name)

    def test_rings_are_cuts_and_cuts_rings(self):
        for name, house in HOUSES.items():
            self.assertEqual(rings(dual(house)), cuts(house), name)
            self.assertEqual(cuts(dual(house)), rings(house), name)

    def test_the_dual_of_the_dual_is_the_house(self):
        for name, house in HOUSES.items():
            self.assertEqual(dual(dual(house)), house, name)

    def test_loops_are_bridges(self):
        for name, house in HOUSES.items():
            self.assertEqual(loops(dual(house)), bridges(house), name)
            self.assertEqual(bridges(dual(house)), loops(house), name)


class StruckAndDrawn(unittest.TestCase):

    def test_few_houses(self):
        house = House(4, 2, [1] * 6)
        for thing in range(4):
            self.assertEqual(struck(house, thing), House(3, 2, [1, 1, 1]))
        self.assertEqual(drawn(house, 0), House(3, 1, [1, 1, 1]))
        self.assertEqual(drawn(house, 1), House(3, 1, [1, -1, -1]))
        self.assertEqual(drawn(house, 2), House(3, 1, [1, 1, -1]))
        self.assertEqual(drawn(house, 3), House(3, 1, [1, 1, 1]))
        house = of_columns(MIXED)
        self.assertEqual(struck(house, 2), of_columns([[1, 0], [0, 0], [0, -2], [0, 0], [0, 3]]))
        self.assertEqual(drawn(house, 2), of_columns([[1], [0], [0], [0], [0]]))
        self.assertEqual(drawn(house, 0), of_columns([[0], [1], [-2], [0], [3]]))

    def test_rings_of_struck_are_those_that_are_nought_there(self):
        for name, house in HOUSES.items():
            for thing in range(house.things()):
                self.assertEqual(rings(struck(house, thing)), nought_at(rings_of(house), thing), (name, thing))

    def test_cuts_of_drawn_are_those_that_are_nought_there(self):
        for name, house in HOUSES.items():
            for thing in range(house.things()):
                self.assertEqual(cuts(drawn(house, thing)), nought_at(cuts_of(house), thing), (name, thing))

    def test_signs_as_the_document_words_it(self):
        for name, house in HOUSES.items():
            for thing in range(house.things()):
                many, rank = house.things() - 1, house.rank()
                if thing not in bridges(house):
                    self.assertEqual(struck(house, thing), House(many, rank, struck_signs(house, thing)), (name, thing))
                if thing not in loops(house):
                    self.assertEqual(drawn(house, thing), House(many, rank - 1, drawn_signs(house, thing)), (name, thing))

    def test_of_a_loop_or_a_bridge_both_are_one_house(self):
        met = set()
        for name, house in HOUSES.items():
            for thing in range(house.things()):
                one, other = struck(house, thing), drawn(house, thing)
                self.assertEqual(one == other, thing in loops(house) or thing in bridges(house), (name, thing))
                met.add(one == other)
                self.assertEqual(one.rank(), house.rank() - (thing in bridges(house)))
                self.assertEqual(other.rank(), house.rank() - (thing not in loops(house)))
                self.assertEqual((len(one), len(other)), (len(house) - 1, len(house) - 1))
        self.assertEqual(met, {True, False})

    def test_loops_and_bridges(self):
        house = of_columns(MIXED)
        for asked in (struck, drawn):
            self.assertEqual(asked(house, 1), of_columns([[1, 0], [0, 1], [0, -2], [0, 0], [0, 3]]))
            self.assertEqual(asked(house, 0), of_columns([[0], [1], [-2], [0], [3]]))
            for many in range(1, 8):
                for thing in range(many):
                    self.assertEqual(asked(House(many, 0, [1]), thing), House(many - 1, 0, [1]))
                    self.assertEqual(asked(House(many, many, [1]), thing), House(many - 1, many - 1, [1]))

    def test_struck_is_the_dual_of_the_dual_drawn(self):
        for name, house in HOUSES.items():
            for thing in range(house.things()):
                self.assertEqual(struck(house, thing), dual(drawn(dual(house), thing)), (name, thing))

    def test_columns_struck_are_the_columns_without_it(self):
        chance = Random(12)
        for _ in range(20):
            columns = some_columns(6, 3, 4, chance)
            house = of_columns(columns)
            for thing in range(6):
                if thing not in bridges(house):
                    self.assertEqual(struck(house, thing), of_columns(columns[:thing] + columns[thing + 1:]))

    def test_webs_struck_are_the_webs_without_the_arrow(self):
        arrows = [(0, 1), (1, 2), (2, 0), (2, 3), (0, 3), (3, 3)]
        for thing in range(6):
            self.assertEqual(struck(of_web(4, arrows), thing), of_web(4, arrows[:thing] + arrows[thing + 1:]))

    def test_webs_drawn_are_those_with_the_arrow_shrunk(self):
        arrows = [(0, 1), (1, 2), (2, 0), (2, 3), (0, 3), (3, 1)]
        for thing, (start, end) in enumerate(arrows):
            shrunk = [tuple(start if knot == end else knot for knot in arrow) for arrow in arrows]
            self.assertEqual(drawn(of_web(4, arrows), thing), of_web(4, shrunk[:thing] + shrunk[thing + 1:]))

    def test_in_any_order(self):
        for house in list(FEW.values())[::4]:
            for one, other in combinations(range(house.things()), 2):
                self.assertEqual(struck(struck(house, other), one), struck(struck(house, one), other - 1))
                self.assertEqual(drawn(drawn(house, other), one), drawn(drawn(house, one), other - 1))
                self.assertEqual(struck(drawn(house, other), one), drawn(struck(house, one), other - 1))

    def test_refused(self):
        for house in (House(0, 0, [1]), House(3, 2, [1, 1, 1]), spread(7, 3), House(3, 0, [1]), House(3, 3, [1])):
            for thing in (-1, house.things(), house.things() + 1, -house.things() - 1, 999999999, -999999999):
                for asked in (struck, drawn):
                    with self.subTest(house=str(house), thing=thing), self.assertRaises(BadThing) as caught:
                        asked(house, thing)
                    self.assertEqual(caught.exception.word, "BadThing")
                    self.assertIsInstance(caught.exception, CleaveError)


class Turned(unittest.TestCase):

    def test_few_houses(self):
        house = House(4, 2, [1] * 6)
        self.assertEqual(turned(house, [1]).signs(), signs_of("+--++-"))
        self.assertEqual(turned(house, [2, 3]).signs(), signs_of("+----+"))
        self.assertEqual(turned(house, [0]).signs(), signs_of("+++---"))
        self.assertEqual(turned(house, []), house)
        self.assertEqual(turned(house, [0, 1, 2, 3]), house)

    def test_signs_as_the_document_words_it(self):
        for name, house in FEW.items():
            for things in ([], [0], [house.things() - 1], [0, 2], list(range(house.things())), [1, 1, 0], [2, 1, 0]):
                if any(thing not in range(house.things()) for thing in things):
                    continue
                signs = []
                for lot, sign in zip(lots_of(house.things(), house.rank()), house.signs()):
                    for thing in things:
                        sign *= -1 if thing in lot else 1
                    signs.append(sign)
                told = turned(house, things)
                self.assertEqual((told.things(), told.rank()), (house.things(), house.rank()))
                self.assertEqual(told.signs(), told_signs(signs), (name, things))

    def test_rings_and_cuts_are_turned_there(self):
        for name, house in FEW.items():
            things = list(range(0, house.things(), 2))
            for told, were in ((rings, rings_of), (cuts, cuts_of)):
                wanted = sorted(
                    tuple(-sign if at in things else sign for at, sign in enumerate(row)) for row in were(house)
                )
                self.assertEqual(told(turned(house, things)), wanted, name)

    def test_a_thing_twice_turns_twice(self):
        house = of_columns([[1, 2], [0, 1], [3, -1], [1, 1]])
        self.assertEqual(turned(house, [1, 1]), house)
        self.assertEqual(turned(house, [1, 3, 1]), turned(house, [3]))
        self.assertEqual(turned(house, [1, 1, 1]), turned(house, [1]))
        self.assertEqual(turned(house, [0, 2, 0, 2]), house)
        self.assertEqual(turned(house, [1] * 63), turned(house, [1]))
        self.assertEqual(turned(house, [1] * 64), house)
        self.assertNotEqual(turned(house, [1]), house)
        self.assertEqual(turned(turned(house, [1]), [1]), house)

    def test_in_any_order(self):
        house = of_columns([[1, 2], [0, 1], [3, -1], [1, 1]])
        for things in permutations([0, 2, 3]):
            self.assertEqual(turned(house, list(things)), turned(house, [0, 2, 3]))
            self.assertEqual(turned(house, things), turned(house, [0, 2, 3]))

    def test_columns_turned_are_the_columns_turned(self):
        columns = [[1, 2, 0], [0, 1, 1], [3, -1, 2], [1, 1, 1], [0, 0, 2]]
        for things in ([0], [1, 4], [0, 2, 3]):
            other = [[-number for number in column] if at in things else column for at, column in enumerate(columns)]
            self.assertEqual(turned(of_columns(columns), things), of_columns(other))

    def test_webs_turned_are_the_webs_with_arrows_turned(self):
        arrows = [(0, 1), (1, 2), (2, 0), (2, 3), (0, 3)]
        for things in ([0], [1, 4], [0, 2, 3]):
            other = [arrow[::-1] if at in things else arrow for at, arrow in enumerate(arrows)]
            self.assertEqual(turned(of_web(4, arrows), things), of_web(4, other))

    def test_edges(self):
        self.assertEqual(turned(House(0, 0, [1]), []), House(0, 0, [1]))
        self.assertEqual(turned(House(7, 0, [1]), [0, 6]), House(7, 0, [1]))
        self.assertEqual(turned(House(7, 7, [1]), [0]), House(7, 7, [1]))

    def test_refused(self):
        for house in (House(0, 0, [1]), House(3, 2, [1, 1, 1]), spread(7, 3)):
            many = house.things()
            for things in ([many], [-1], [many, many], [-1, -1], [*range(many), many], [999999999], [-many - 1]):
                for kind in (list, tuple):
                    with self.subTest(house=str(house), things=things), self.assertRaises(BadThing) as caught:
                        turned(house, kind(things))
                    self.assertEqual(caught.exception.word, "BadThing")


class Moved(unittest.TestCase):

    def test_few_houses(self):
        house = House(3, 2, [1, 1, 0])
        self.assertEqual(moved(house, (0, 1, 2)), house)
        self.assertEqual(moved(house, (1, 0, 2)).signs(), (1, 0, -1))
        self.assertEqual(moved(house, (2, 0, 1)).signs(), (1, 0, -1))
        self.assertEqual(moved(house, (1, 2, 0)).signs(), (0, 1, 1))
        self.assertEqual(moved(House(3, 1, [1, 0, -1]), (1, 2, 0)).signs(), (0, 1, -1))

    def test_the_new_thing_is_the_old_one_of_the_order(self):
        chance = Random(13)
        for name, house in FEW.items():
            for _ in range(3):
                order = list(range(house.things()))
                chance.shuffle(order)
                told = moved(house, tuple(order))
                self.assertEqual((told.things(), told.rank()), (house.things(), house.rank()))
                for were, now in ((rings_of, rings), (cuts_of, cuts)):
                    wanted = sorted(tuple(row[thing] for thing in order) for row in were(house))
                    self.assertEqual(now(told), wanted, (name, order))
                table = table_of(house.things(), house.rank(), house.signs())
                signs = [read(table, tuple(order[thing] for thing in lot)) for lot in lots_of(len(house), house.rank())]
                self.assertEqual(told.signs(), told_signs(signs))

    def test_columns_moved_are_the_columns_in_that_order(self):
        columns = [[1, 2], [0, 1], [3, -1], [1, 1]]
        for order in permutations(range(4)):
            self.assertEqual(moved(of_columns(columns), order), of_columns([columns[thing] for thing in order]))
            self.assertEqual(moved(of_columns(columns), list(order)), of_columns([columns[thing] for thing in order]))

    def test_edges(self):
        self.assertEqual(moved(House(0, 0, [1]), ()), House(0, 0, [1]))
        self.assertEqual(moved(House(1, 1, [1]), (0,)), House(1, 1, [1]))
        self.assertEqual(moved(House(7, 7, [1]), (6, 5, 4, 3, 2, 1, 0)), House(7, 7, [1]))

    def test_refused(self):
        house = House(3, 2, [1, 1, 1])
        for order in (
            (), (0,), (0, 1), (0, 0, 1), (0, 1, 1), (0, 1, 3), (0, 1, -1), (1, 2, 3), (0, 1, 2, 3), (0, 1, 2, 2),
            (0, 1, 2, 0, 1, 2), (-1, 0, 1), (-3, -2, -1), (0, 1, 999999999), (2, 2, 2), tuple(range(64)),
        ):
            for kind in (list, tuple):
                with self.subTest(order=order), self.assertRaises(BadOrder) as caught:
                    moved(house, kind(order))
                self.assertEqual(caught.exception.word, "BadOrder")
                self.assertIsInstance(caught.exception, CleaveError)
        self.assertRaises(BadOrder, moved, House(0, 0, [1]), (0,))
        self.assertRaises(BadOrder, moved, spread(7, 3), (0, 1, 2, 3, 4, 5, 7))


class Beside(unittest.TestCase):

    def test_few_houses(self):
        self.assertEqual(beside(House(2, 1, [1, 1]), House(2, 1, [1, -1])).signs(), signs_of("0+-+-0"))
        self.assertEqual(beside(House(2, 1, [1, -1]), House(2, 1, [1, 1])).signs(), signs_of("0++--0"))
        self.assertEqual(beside(House(1, 0, [1]), House(1, 1, [1])), House(2, 1, [0, 1]))
        self.assertEqual(beside(House(1, 1, [1]), House(1, 0, [1])), House(2, 1, [1, 0]))

    def test_rings_and_cuts_are_those_of_both(self):
        kept = [house for house in FEW.values() if house.things() <= 4][::2]
        for one, other in product(kept, repeat=2):
            if len(one) + len(other) > 7:
                continue
            told = beside(one, other)
            self.assertEqual((told.things(), told.rank()), (len(one) + len(other), one.rank() + other.rank()))
            for were, now in ((rings_of, rings), (cuts_of, cuts)):
                behind = [row + (0,) * len(other) for row in were(one)] + [(0,) * len(one) + row for row in were(other)]
                self.assertEqual(now(told), sorted(behind))

    def test_signs_are_products(self):
        kept = [house for house in FEW.values() if 2 <= house.things() <= 4][::3]
        for one, other in product(kept, repeat=2):
            if len(one) + len(other) > 7:
                continue
            signs = []
            for lot in lots_of(len(one) + len(other), one.rank() + other.rank()):
                first = tuple(thing for thing in lot if thing < len(one))
                second = tuple(thing - len(one) for thing in lot if thing >= len(one))
                right = len(first) == one.rank()
                signs.append(one.sign(first) * other.sign(second) if right else 0)
            self.assertEqual(beside(one, other).signs(), told_signs(signs))

    def test_columns_beside_are_columns_with_noughts(self):
        one, other = [[1, 2], [0, 1], [3, -1]], [[1], [-1], [0], [2]]
        wanted = of_columns([[*column, 0] for column in one] + [[0, 0, *column] for column in other])
        self.assertEqual(beside(of_columns(one), of_columns(other)), wanted)

    def test_the_house_of_no_things(self):
        empty = House(0, 0, [1])
        self.assertEqual(beside(empty, empty), empty)
        for house in FEW.values():
            self.assertEqual(beside(house, empty), house)
            self.assertEqual(beside(empty, house), house)

    def test_together_seven_things(self):
        for many in range(8):
            told = beside(House(many, 0, [1]), House(7 - many, 7 - many, [1]))
            self.assertEqual((told.things(), told.rank()), (7, 7 - many))
            self.assertEqual(told.bases(), [tuple(range(many, 7))])

    def test_more_than_seven_things(self):
        for one, other in ((1, 7), (7, 1), (4, 4), (7, 7), (8 - 2, 2), (3, 5)):
            for rank in (0, 1):
                with self.subTest(one=one, other=other), self.assertRaises(TooMany) as caught:
                    beside(spread(one, rank), spread(other, rank))
                self.assertEqual(caught.exception.word, "TooMany")
                self.assertIsInstance(caught.exception, HouseError)

    def test_a_house_beside_itself(self):
        house = House(2, 1, [1, -1])
        self.assertEqual(beside(house, house), House(4, 2, signs_of("0+--+0")))


class MadeHousesAreHouses(unittest.TestCase):

    def test_points_5_and_7_hold_of_them(self):
        chance = Random(14)
        for house in list(FEW.values()):
            if house.things() == 0:
                continue
            thing = chance.randrange(house.things())
            order = list(range(house.things()))
            chance.shuffle(order)
            for made in (dual(house), struck(house, thing), drawn(house, thing), turned(house, [thing]),
                         moved(house, order)):
                self.assertTrue(is_house(made.things(), made.rank(), made.signs()))
                self.assertEqual(rings(made), rings_of(made))
                self.assertEqual(cuts(made), cuts_of(made))
                self.assertEqual(both_ways(rings(made)), rings(made))

    def test_made_of_one_another(self):
        house = of_columns([[1, 2, 0], [0, 1, 1], [3, -1, 2], [1, 1, 1], [0, 0, 2], [1, 0, 0]])
        one = turned(moved(struck(house, 2), (4, 2, 0, 1, 3)), [0, 3])
        columns = [[1, 0, 0], [1, 1, 1], [1, 2, 0], [0, 1, 1], [0, 0, 2]]
        self.assertEqual(one, of_columns([[-number for number in column] if at in (0, 3) else column
                                          for at, column in enumerate(columns)]))


class NothingChanges(unittest.TestCase):

    def test_houses_handed_in_stay(self):
        house, other = of_columns(MIXED), spread(1, 1)
        before = (str(house), str(other))
        for _ in range(2):
            dual(house)
            struck(house, 2)
            drawn(house, 0)
            turned(house, [0, 2])
            moved(house, (5, 4, 3, 2, 1, 0))
            beside(house, other)
            self.assertRaises(BadThing, struck, house, 6)
            self.assertRaises(TooMany, beside, house, house)
            self.assertRaises(BadOrder, moved, house, (0, 1))
            self.assertEqual((str(house), str(other)), before)

    def test_lists_handed_in_stay_and_may_change_later(self):
        house = spread(4, 2)
        for asked, handed in ((turned, [3, 1, 1]), (turned, [9, 0]), (moved, [3, 1, 0, 2]), (moved, [3, 3, 0, 2])):
            kept = copy.deepcopy(handed)
            try:
                asked(house, handed)
            except CleaveError:
                pass
            self.assertEqual(handed, kept)
        order = [3, 1, 0, 2]
        told = moved(house, order)
        wanted = str(told)
        order.reverse()
        self.assertEqual(str(told), wanted)

    def test_the_same_asked_again(self):
        house = of_columns(MIXED)
        self.assertEqual(dual(house), dual(house))
        self.assertEqual(struck(house, 3), struck(house, 3))
        self.assertEqual(turn(turn(dual(house).signs())), dual(house).signs())


if __name__ == "__main__":
    unittest.main()
