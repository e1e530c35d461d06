"""Points 13 and 14: houses grown and leaned, bases flipped; points 1 and 2 where they speak of these."""
import unittest
from itertools import combinations, permutations, product
from random import Random

from sample_houses import (
    all_houses, cuts_of, few_houses, is_house, lots_of, read, reason_holds, table_of, told_signs, turn,
)
from signcleave.errors import BadLot, BadSigns, BadSteps, CleaveError, HouseError, NoBase, NotLet, TooMany
from signcleave.growing import flippable, flipped, grown, leaned
from signcleave.house import House
from signcleave.makers import of_columns, of_web, spread
from signcleave.minors import struck
from signcleave.rings import half_cuts
from signcleave.tables import judged

HOUSES = all_houses()
SMALL = {name: house for name, house in HOUSES.items() if house.things() <= 4}
SEVEN = {name: house for name, house in few_houses().items() if house.things() == 7}
# Thing 3 is a loop.
WITH_LOOP = of_columns([[1, 0], [0, 1], [1, 1], [0, 0]])


def halves_of(house):
    return [cut for cut in cuts_of(house) if [sign for sign in cut if sign][0] == 1]


def grown_signs(house, signs):
    """The signs of the grown table, as point 13 words it."""
    things, rank = house.things(), house.rank()
    table = table_of(things, rank, house.signs())
    told = dict(zip(halves_of(house), signs, strict=True))
    found = []
    for lot in lots_of(things + 1, rank):
        if things not in lot:
            found.append(table[lot])
            continue
        row = tuple(read(table, (*lot[:-1], thing)) for thing in range(things))
        if not any(row):
            found.append(0)
        else:
            found.append(told[row] if row in told else -told[turn(row)])
    return tuple(found)


def leaned_signs(house, steps):
    """The sign for each half cut, as point 13 words it."""
    return [next((sign * cut[thing] for thing, sign in steps if cut[thing] != 0), 0) for cut in halves_of(house)]


def steps_by_chance(house, chance):
    things = chance.sample(range(house.things()), chance.randint(0, house.things()))
    return tuple((thing, chance.choice((1, -1))) for thing in things)


class Growing(unittest.TestCase):

    def check(self, house, signs):
        """Asks for the house grown by these signs; whether it is let."""
        table = grown_signs(house, signs)
        let = is_house(house.things() + 1, house.rank(), table)
        if not let:
            with self.assertRaises(NotLet) as caught:
                grown(house, signs)
            self.assertTrue(reason_holds(house.things() + 1, house.rank(), table, caught.exception.why))
            self.assertEqual(caught.exception.word, "NotLet")
            self.assertIsInstance(caught.exception, CleaveError)
            return False
        told = grown(house, signs)
        self.assertIs(type(told), House)
        self.assertEqual((told.things(), told.rank()), (house.things() + 1, house.rank()))
        self.assertEqual(told.signs(), told_signs(table))
        self.assertEqual(struck(told, house.things()) if house.things() else house, house)
        longer = cuts_of(told)
        for cut, sign in zip(halves_of(house), signs):
            self.assertIn((*cut, sign), longer)
            self.assertIn(turn((*cut, sign)), longer)
        return True

    def test_all_signs_for_small_houses(self):
        met = set()
        for house in SMALL.values():
            many = len(halves_of(house))
            if many <= 4:
                for signs in product((-1, 0, 1), repeat=many):
                    met.add(self.check(house, signs))
        self.assertEqual(met, {True, False})

    def test_signs_by_chance(self):
        chance = Random(13)
        for house in few_houses().values():
            if house.things() == 7:
                continue
            many = len(halves_of(house))
            for _ in range(4):
                self.check(house, [chance.choice((-1, 0, 1)) for _ in range(many)])
                self.check(house, leaned_signs(house, steps_by_chance(house, chance)))
            self.assertTrue(self.check(house, [0] * many))
            for thing in range(house.things()):
                self.assertTrue(self.check(house, [cut[thing] for cut in halves_of(house)]))

    def test_by_hand(self):
        two = spread(2, 1)
        self.assertEqual(half_cuts(two), [(1, 1)])
        self.assertEqual(grown(two, [1]), spread(3, 1))
        self.assertEqual(grown(two, (-1,)), House(3, 1, [1, 1, -1]))
        self.assertEqual(grown(two, [0]), House(3, 1, [1, 1, 0]))
        free = House(2, 2, [1])
        self.assertEqual(half_cuts(free), [(0, 1), (1, 0)])
        # The row of lot (0,) is (0, 1), that of (1,) is (-1, 0): its opposite has the told sign.
        self.assertEqual(grown(free, [1, 1]), House(3, 2, [1, 1, -1]))
        self.assertEqual(grown(free, [1, -1]), House(3, 2, [1, 1, 1]))
        # The rows of lots (0,), (1,) and (2,) are the first, the opposite of the second, that of the third.
        house = spread(3, 2)
        self.assertEqual(half_cuts(house), [(0, 1, 1), (1, 0, -1), (1, 1, 0)])
        self.assertEqual(grown(house, [1, -1, -1]), spread(4, 2))
        self.assertEqual(grown(house, [1, -1, 1]), House(4, 2, [1, 1, 1, 1, 1, -1]))
        self.assertEqual(grown(house, (1, 0, 1)), House(4, 2, [1, 1, 1, 1, 0, -1]))

    def test_rank_nought_and_full_rank(self):
        for many in range(7):
            self.assertEqual(grown(House(many, 0, [1]), []), House(many + 1, 0, [1]))
            self.assertEqual(grown(House(many, 0, [1]), ()), House(many + 1, 0, [1]))
            full = House(many, many, [1])
            for signs in ([0] * many, [1] * many, [(-1) ** at for at in range(many)]):
                self.assertTrue(self.check(full, signs))

    def test_signs_that_make_no_house(self):
        house = spread(3, 2)
        refused = 0
        for signs in product((-1, 0, 1), repeat=3):
            if not is_house(4, 2, grown_signs(house, signs)):
                refused += 1
                with self.assertRaises(NotLet) as caught:
                    grown(house, list(signs))
                self.assertEqual(caught.exception.why, judged(4, 2, grown_signs(house, signs)))
        # Of all 27, one is the loop, six lie at a thing or against it, and six between two of them.
        self.assertEqual(27 - refused, 13)

    def test_arguments_by_name(self):
        self.assertEqual(grown(signs=[1], house=spread(2, 1)), spread(3, 1))
        self.assertEqual(leaned(steps=[(0, 1)], house=spread(2, 1)), spread(3, 1))
        self.assertEqual(flippable(house=spread(2, 1)), [(0,), (1,)])
        self.assertEqual(flipped(lot=(1,), house=spread(2, 1)), House(2, 1, [1, -1]))


class Leaning(unittest.TestCase):

    def check(self, house, steps):
        signs = leaned_signs(house, steps)
        told = leaned(house, steps)
        table = grown_signs(house, signs)
        self.assertTrue(is_house(house.things() + 1, house.rank(), table))
        self.assertEqual((told.things(), told.rank()), (house.things() + 1, house.rank()))
        self.assertEqual(told.signs(), told_signs(table))
        self.assertEqual(told, grown(house, signs))
        longer = cuts_of(told)
        for cut, sign in zip(halves_of(house), signs):
            self.assertIn((*cut, sign), longer)

    def test_all_steps_of_houses_of_three_things(self):
        for house in SMALL.values():
            if house.things() > 3:
                continue
            for count in range(house.things() + 1):
                for things in permutations(range(house.things()), count):
                    for signs in product((1, -1), repeat=count):
                        self.check(house, tuple(zip(things, signs)))

    def test_steps_by_chance(self):
        chance = Random(8)
        for house in HOUSES.values():
            if 4 <= house.things() <= 6:
                for _ in range(3):
                    self.check(house, steps_by_chance(house, chance))

    def test_no_steps_make_a_loop(self):
        for house in HOUSES.values():
            if house.things() < 7:
                told = leaned(house, [])
                self.assertEqual(told, leaned(house, ()))
                self.assertEqual(told.bases(), house.bases())

    def test_one_step_makes_one_of_its_family(self):
        house = spread(3, 2)
        for thing in range(3):
            for sign in (1, -1):
                told = leaned(house, [(thing, sign)])
                for cut in cuts_of(told):
                    self.assertEqual(cut[3], sign * cut[thing])

    def test_steps_where_cuts_are_nought(self):
        # At a loop each cut is nought: the step tells nothing.
        self.assertEqual(leaned(WITH_LOOP, [(3, 1)]), leaned(WITH_LOOP, []))
        self.assertEqual(leaned(WITH_LOOP, [(3, -1), (0, 1)]), leaned(WITH_LOOP, [(0, 1)]))
        self.assertNotEqual(leaned(WITH_LOOP, [(0, 1), (1, 1)]), leaned(WITH_LOOP, [(0, 1)]))
        self.assertEqual(leaned(WITH_LOOP, [(0, 1), (1, 1), (2, -1)]), leaned(WITH_LOOP, [(0, 1), (1, 1)]))

    def test_lists_and_tuples_alike(self):
        for steps in ([], [(0, 1)], [(0, 1), (2, -1)], [(2, 1), (0, -1), (1, 1)]):
            told = leaned(WITH_LOOP, steps)
            self.assertEqual(leaned(WITH_LOOP, tuple(steps)), told)
            self.assertEqual(leaned(WITH_LOOP, [list(step) for step in steps]), told)

    def test_up_to_seven_things_and_not_beyond(self):
        house = House(0, 0, [1])
        for many in range(1, 8):
            house = leaned(house, [])
            self.assertEqual(house, House(many, 0, [1]))
        self.assertRaises(TooMany, leaned, house, [])


class RefusedGrowth(unittest.TestCase):

    def refused(self, kind, asked, *handed):
        with self.subTest(kind=kind.__name__, handed=handed[1:]), self.assertRaises(kind) as caught:
            asked(*handed)
        self.assertEqual(caught.exception.word, kind.__name__)
        self.assertIsInstance(caught.exception, HouseError if kind is TooMany else CleaveError)

    def test_steps(self):
        house = spread(4, 2)
        for steps in (
            [(4, 1)], [(-1, 1)], [(999999999, 1)], [(0, 1), (4, 1)], [(0, 1), (0, 1)], [(0, 1), (0, -1)],
            [(0, 1), (1, 1), (0, 1)], [(0, 0)], [(0, 2)], [(0, -2)], [(0, 1), (1, 0)], [(0, 999999999)],
            [(thing & 3, 1) for thing in range(64)],
        ):
            self.refused(BadSteps, leaned, house, steps)
            self.refused(BadSteps, leaned, house, tuple(steps))
        self.refused(BadSteps, leaned, House(0, 0, [1]), [(0, 1)])

    def test_houses_of_seven_things(self):
        for house in SEVEN.values():
            many = len(halves_of(house))
            self.refused(TooMany, leaned, house, [])
            self.refused(TooMany, leaned, house, [(6, -1), (0, 1)])
            self.refused(TooMany, grown, house, [0] * many)

    def test_signs(self):
        for house in (spread(3, 2), spread(2, 0), WITH_LOOP, House(3, 3, [1]), House(0, 0, [1])):
            many = len(halves_of(house))
            for signs in ([0] * (many + 1), [1] * (many + 3), [0] * 64, [2] * many + [0], [0] * 300):
                self.refused(BadSigns, grown, house, signs)
                self.refused(BadSigns, grown, house, tuple(signs))
            for wrong in (2, -2, 999999999):
                for at in range(many):
                    self.refused(BadSigns, grown, house, [wrong if other == at else 0 for other in range(many)])
            if many:
                self.refused(BadSigns, grown, house, [0] * (many - 1))
                self.refused(BadSigns, grown, house, [])

    def test_which_refusal_goes_first(self):
        house = spread(7, 3)
        self.refused(BadSteps, leaned, house, [(7, 1)])
        self.refused(BadSteps, leaned, house, [(0, 0)])
        self.refused(BadSteps, leaned, house, [(0, 1), (0, 1)])
        self.refused(TooMany, grown, house, [])
        self.refused(TooMany, grown, house, [5] * 21)
        self.refused(BadSigns, grown, spread(3, 2), [1, 1, 2])
        self.refused(NotLet, grown, spread(3, 2), [1, 1, -1])


def flip(house, base):
    lots = lots_of(house.things(), house.rank())
    return tuple(-sign if lot == base else sign for lot, sign in zip(lots, house.signs(), strict=True))


class Flipping(unittest.TestCase):

    def test_exactly_the_flippable_bases_can_be_flipped(self):
        met = set()
        for house in HOUSES.values():
            told = flippable(house)
            self.assertIs(type(told), list)
            self.assertEqual(told, sorted(told))
            for base in house.bases():
                signs = flip(house, base)
                let = is_house(house.things(), house.rank(), signs)
                self.assertEqual(base in told, let)
                met.add(let)
                if let:
                    other = flipped(house, base)
                    self.assertEqual((other.things(), other.rank()), (house.things(), house.rank()))
                    self.assertEqual(other.signs(), told_signs(signs))
                    self.assertIn(base, flippable(other))
                    self.assertEqual(flipped(other, base), house)
                    continue
                with self.assertRaises(NotLet) as caught:
                    flipped(house, base)
                self.assertTrue(reason_holds(house.things(), house.rank(), signs, caught.exception.why))
                self.assertEqual(caught.exception.why, judged(house.things(), house.rank(), signs))
            self.assertLessEqual(set(told), set(house.bases()))
        self.assertEqual(met, {True, False})

    def test_one_base_alone(self):
        for house in (House(0, 0, [1]), House(3, 0, [1]), House(7, 7, [1]), of_columns([[0, 0], [1, 0], [0, 0], [0, 1]])):
            base, = house.bases()
            self.assertEqual(flippable(house), [base])
            self.assertEqual(flipped(house, base), house)

    def test_by_hand(self):
        self.assertEqual(flippable(spread(4, 2)), [(0, 1), (0, 3), (1, 2), (2, 3)])
        self.assertEqual(flipped(spread(4, 2), (1, 2)), House(4, 2, [1, 1, 1, -1, 1, 1]))
        self.assertEqual(flipped(spread(4, 2), [0, 1]), House(4, 2, [-1, 1, 1, 1, 1, 1]))
        self.assertEqual(flippable(of_web(3, [(0, 1), (1, 2), (0, 2)])), [(0, 1), (0, 2), (1, 2)])

    def refused(self, kind, house, lot):
        for handed in (tuple(lot), list(lot)):
            with self.subTest(kind=kind.__name__, lot=lot), self.assertRaises(kind) as caught:
                flipped(house, handed)
            self.assertEqual(caught.exception.word, kind.__name__)
            self.assertIsInstance(caught.exception, CleaveError)

    def test_refusals(self):
        for lot in ((), (0,), (0, 1, 2), (1, 0), (1, 1), (0, 4), (-1, 0), (0, 999999999), tuple(range(64))):
            self.refused(BadLot, spread(4, 2), lot)
            self.refused(BadLot, WITH_LOOP, lot)
        for lot in ((0, 3), (1, 3), (2, 3)):
            self.refused(NoBase, WITH_LOOP, lot)
        for lot in ((0, 2), (1, 3)):
            self.refused(NotLet, spread(4, 2), lot)

    def test_lots_that_are_no_bases(self):
        for house in SMALL.values():
            for lot in combinations(range(house.things()), house.rank()):
                if lot not in house.bases():
                    self.refused(NoBase, house, lot)


class NothingChanges(unittest.TestCase):

    def test_what_is_handed_in_stays_and_may_be_changed_later(self):
        house = spread(3, 2)
        signs, steps, lot = [1, -1, -1], [[0, 1], [2, -1]], [0, 1]
        told = (grown(house, signs), leaned(house, steps), flipped(house, lot))
        self.assertEqual((signs, steps, lot), ([1, -1, -1], [[0, 1], [2, -1]], [0, 1]))
        texts = [str(one) for one in told]
        signs[0] = 0
        steps[0][1] = -1
        lot.append(2)
        self.assertEqual([str(one) for one in told], texts)
        self.assertEqual(house, spread(3, 2))

    def test_a_told_list_may_be_changed(self):
        house = spread(4, 2)
        told = flippable(house)
        kept = list(told)
        told.clear()
        self.assertEqual(flippable(house), kept)

    def test_asking_changes_nothing(self):
        for house in (spread(4, 2), WITH_LOOP):
            before = str(house)
            signs = [0] * len(half_cuts(house))
            self.assertEqual(grown(house, signs), grown(house, signs))
            self.assertEqual(leaned(house, [(0, 1), (1, 1)]), leaned(house, [(0, 1), (1, 1)]))
            self.assertEqual(flippable(house), flippable(house))
            self.assertEqual(str(house), before)


if __name__ == "__main__":
    unittest.main()
