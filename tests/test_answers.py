"""Points 22 and 23: asked rows and answers; points 1 and 2 where they speak of these."""
import unittest
from itertools import permutations, product
from random import Random

from plain_runs import PlainBase, plain_run
from sample_houses import all_houses, lots_of, rank_in, square, support
from signcleave.answers import answered, shows
from signcleave.askings import read_asking
from signcleave.errors import BadAsking, BadThing, CleaveError
from signcleave.house import House
from signcleave.makers import of_columns, of_web, spread
from signcleave.rows import stands

HOUSES = all_houses()
# Thing 3 is a loop, thing 4 a bridge.
LOOP_AND_BRIDGE = of_columns([[1, 0, 0], [0, 1, 0], [1, 1, 0], [0, 0, 0], [0, 0, 1]])


def askings_of(many):
    """All askings of so many things."""
    for word in ("greatest", "least"):
        for aim, bound in permutations(range(many), 2):
            others = [thing for thing in range(many) if thing not in (aim, bound)]
            for picked in product(range(4), repeat=len(others)):
                groups = [tuple(thing for thing, place in zip(others, picked) if place == at) for at in range(3)]
                yield (word, aim, bound, *groups)


def asking_by_chance(many, chance):
    aim, bound, *others = chance.sample(range(many), many)
    groups = ([], [], [])
    for thing in sorted(others):
        place = chance.choice((0, 0, 1, 1, 2, 3))
        if place < 3:
            groups[place].append(thing)
    return (chance.choice(("greatest", "least")), aim, bound, *[tuple(group) for group in groups])


def let_signs(many, asking, aim, bound, even, others):
    """The signs let at each thing, where those of over and under are let as everywhere in point 22."""
    let = [others] * many
    for things, signs in ((asking[3], (0, 1)), (asking[4], (0, -1)), (asking[5], even), ([asking[1]], aim),
                          ([asking[2]], bound)):
        for thing in things:
            let[thing] = signs
    return let


def has(row, let):
    return all(sign in signs for sign, signs in zip(row, let, strict=True))


class Good:
    """All good answers, as point 22 words them."""

    def __init__(self, plain, asking):
        many, anything = plain.things, (-1, 0, 1)
        aim = 1 if asking[0] == "greatest" else -1
        cant = let_signs(many, asking, (0,), (1,), anything, (0,))
        endless = let_signs(many, asking, (aim,), (0,), (0,), anything)
        asked = let_signs(many, asking, anything, (1,), (0,), anything)
        price = let_signs(many, asking, (aim,), anything, anything, (0,))
        self.cant = [("cant", ring) for ring in plain.rings if has(ring, cant)]
        self.endless = [("endless", cut) for cut in plain.cuts if has(cut, endless)]
        told = [*asking[3], *asking[4]]
        self.best = [
            ("best", cut, ring)
            for cut in plain.cuts if has(cut, asked)
            for ring in plain.rings if has(ring, price) and not any(cut[thing] and ring[thing] for thing in told)
        ]
        self.all = {*self.cant, *self.endless, *self.best}


class Narrow(PlainBase):
    """The house of the run of point 23, told by ranks, and by rings and cuts cut down to the things kept."""

    def __init__(self, house, plain, asking):
        word, aim, bound, over, under, even = asking
        self.kept = sorted([aim, bound, *over, *under])
        self.turns = {*under, *([aim] if word == "least" else [])}
        self.things = len(self.kept)
        gone = set(range(house.things())) - set(self.kept) - set(even)
        self.rings = self.cut_down([ring for ring in plain.rings if not support(ring) & gone])
        self.cuts = self.cut_down([cut for cut in plain.cuts if not support(cut) & set(even)])
        rank = rank_in(house, [*self.kept, *even]) - rank_in(house, even)
        self.bases = [
            lot for lot in lots_of(self.things, rank)
            if rank_in(house, [*[self.kept[at] for at in lot], *even]) - rank_in(house, even) == rank
        ]

    def cut_down(self, rows):
        """Rows at the things kept, those alone within whose signs no other's signs are, turned."""
        short = {tuple(-row[thing] if thing in self.turns else row[thing] for thing in self.kept) for row in rows}
        short = {row for row in short if any(row)}
        return sorted(row for row in short if not any(support(other) < support(row) for other in short))

    def verdict(self, bound, aim):
        bound, aim = self.kept.index(bound), self.kept.index(aim)
        if self.is_loop(bound):
            return ("cant", tuple(int(at == bound) for at in range(self.things)))
        if self.is_bridge(aim):
            return ("endless", tuple(int(at == aim) for at in range(self.things)))
        return plain_run(self, bound, aim)[-1][4]

    def back(self, paper):
        """The signs that a paper has at the things kept, ahead of turning."""
        return {thing: -sign if thing in self.turns else sign for thing, sign in zip(self.kept, paper)}


def each_asked():
    """(house, plain, asking) of many houses and askings."""
    chance = Random(23)
    for house in HOUSES.values():
        if house.things() < 2:
            continue
        plain = PlainBase(house)
        if house.things() < 4:
            askings = list(askings_of(house.things()))
        else:
            askings = [asking_by_chance(house.things(), chance) for _ in range(14 if house.things() == 4 else 60)]
        for asking in askings:
            yield house, plain, asking


ASKED = list(each_asked())


class Answers(unittest.TestCase):

    def test_each_answer_is_that_of_its_run(self):
        met = set()
        for house, plain, asking in ASKED:
            answer = answered(house, asking)
            good = Good(plain, asking)
            self.assertIs(type(answer), tuple)
            self.assertIn(answer, good.all, (str(house), asking))
            narrow = Narrow(house, plain, asking)
            word, *papers = narrow.verdict(asking[2], asking[1])
            self.assertEqual(answer[0], word, (str(house), asking))
            for row, paper in zip(answer[1:], papers, strict=True):
                self.assertIs(type(row), tuple)
                self.assertEqual({thing: row[thing] for thing in narrow.kept}, narrow.back(paper))
            met.add((word, bool(good.cant), bool(good.endless), asking[0]))
        for word in ("greatest", "least"):
            for kind in (("best", False, False), ("cant", True, False), ("cant", True, True), ("endless", False, True),
                         ("endless", True, True)):
                self.assertIn((*kind, word), met)
        self.assertEqual(len(met), 10)

    def test_a_best_one_just_where_there_is_no_other(self):
        for house, plain, asking in ASKED:
            good = Good(plain, asking)
            self.assertEqual(bool(good.best), not good.cant and not good.endless, (str(house), asking))

    def test_the_cut_of_a_best_answer_is_an_asked_row(self):
        for house, plain, asking in ASKED:
            answer = answered(house, asking)
            if answer[0] == "best":
                row = answer[1]
                self.assertTrue(stands(house, row))
                self.assertTrue(all(square(row, ring) for ring in plain.rings))
                self.assertEqual(row[asking[2]], 1)
                self.assertFalse([thing for thing in asking[3] if row[thing] == -1])
                self.assertFalse([thing for thing in asking[4] if row[thing] == 1])
                self.assertFalse([thing for thing in asking[5] if row[thing] != 0])

    def test_told_alike_again(self):
        for house, _, asking in ASKED[::25]:
            before = str(house)
            self.assertEqual(answered(house, asking), answered(house, asking))
            self.assertEqual(str(house), before)

    def test_a_few_by_hand(self):
        web = of_web(3, [(0, 1), (1, 2), (0, 2)])
        # The rings are (-1, -1, 1) and its opposite; of the cuts, (1, 0, 1), (0, 1, 1), (1, -1, 0) and theirs.
        asking = read_asking("greatest 1 by 0 where -2")
        self.assertEqual(answered(web, asking), ("best", (1, -1, 0), (1, 1, -1)))
        self.assertEqual(answered(web, ("greatest", 2, 0, (), (1,), ())), ("best", (1, 0, 1), (-1, -1, 1)))
        self.assertEqual(answered(web, ("greatest", 2, 0, (1,), (), ())), ("endless", (0, 1, 1)))
        self.assertEqual(answered(web, ("least", 2, 0, (1,), (), ())), ("best", (1, 0, 1), (1, 1, -1)))
        self.assertEqual(answered(web, ("least", 2, 0, (), (), (1,))), ("best", (1, 0, 1), (1, 1, -1)))
        two = spread(2, 1)
        self.assertEqual(answered(two, ("greatest", 1, 0, (), (), ())), ("best", (1, 1), (-1, 1)))
        self.assertEqual(answered(two, ("least", 1, 0, (), (), ())), ("best", (1, 1), (1, -1)))

    def test_loops_and_bridges(self):
        for aim in (0, 1, 2, 4):
            self.assertEqual(answered(LOOP_AND_BRIDGE, ("greatest", aim, 3, (), (), ())), ("cant", (0, 0, 0, 1, 0)))
        for bound in (0, 1, 2):
            self.assertEqual(answered(LOOP_AND_BRIDGE, ("greatest", 4, bound, (), (), ())), ("endless", (0, 0, 0, 0, 1)))
            self.assertEqual(answered(LOOP_AND_BRIDGE, ("least", 4, bound, (), (), ())), ("endless", (0, 0, 0, 0, -1)))
        # Both would do: the bound is asked first.
        self.assertEqual(answered(LOOP_AND_BRIDGE, ("least", 4, 3, (), (), ())), ("cant", (0, 0, 0, 1, 0)))
        self.assertIs(shows(LOOP_AND_BRIDGE, ("least", 4, 3, (), (), ()), ("endless", (0, 0, 0, 0, -1))), True)
        self.assertEqual(answered(House(2, 0, [1]), ("greatest", 1, 0, (), (), ())), ("cant", (1, 0)))
        self.assertEqual(answered(House(2, 2, [1]), ("least", 1, 0, (), (), ())), ("endless", (0, -1)))

    def test_loops_and_bridges_that_come_by_striking_and_drawing(self):
        web = of_web(3, [(0, 1), (1, 2), (0, 2)])
        # Of two arrows alone, behind each other, each is a bridge; with one drawn away the others are of one family.
        self.assertEqual(answered(web, ("greatest", 1, 0, (), (), ()))[0], "endless")
        self.assertEqual(answered(web, ("greatest", 1, 0, (), (), (2,)))[0], "best")
        self.assertEqual(answered(spread(4, 2), ("greatest", 1, 0, (), (), (2, 3))), ("cant", (1, 0, -1, 1)))
        for many in range(3, 8):
            others = tuple(range(2, many))
            for rank in range(1, many):
                struck_off = answered(spread(many, rank), ("greatest", 1, 0, (), (), ()))
                drawn_off = answered(spread(many, rank), ("greatest", 1, 0, (), (), others))
                self.assertEqual(struck_off[0], "best" if rank == 1 else "endless")
                self.assertEqual(drawn_off[0], "best" if rank == many - 1 else "cant")

    def test_a_house_of_two_things(self):
        for house in HOUSES.values():
            if house.things() == 2:
                for asking in askings_of(2):
                    self.assertIn(answered(house, asking), Good(PlainBase(house), asking).all)

    def test_arguments_by_name(self):
        asking = ("greatest", 1, 0, (), (), ())
        self.assertEqual(answered(asking=asking, house=spread(2, 1)), ("best", (1, 1), (-1, 1)))
        self.assertIs(shows(answer=("best", (1, 1), (-1, 1)), asking=asking, house=spread(2, 1)), True)


class Shows(unittest.TestCase):

    def test_all_answers_of_small_houses(self):
        met = set()
        for house, plain, asking in ASKED:
            if house.things() > 3:
                continue
            good = Good(plain, asking).all
            rows = [*plain.rings, *plain.cuts, (0,) * house.things()]
            answers = [(word, row) for word in ("cant", "endless", "best", "none") for row in rows]
            answers += [(word, *two) for word in ("best", "cant", "endless") for two in product(rows, repeat=2)]
            for answer in answers:
                self.assertIs(shows(house, asking, answer), answer in good, (str(house), asking, answer))
                met.add((answer[0], answer in good))
        self.assertEqual(len(met), 7)

    def test_told_answers_are_good(self):
        for house, _, asking in ASKED:
            answer = answered(house, asking)
            self.assertIs(shows(house, asking, answer), True)
            self.assertIs(shows(house, list(asking), [answer[0], *[list(row) for row in answer[1:]]]), True)

    def test_bent_answers(self):
        chance = Random(4)
        for house, plain, asking in ASKED:
            good = Good(plain, asking).all
            word, *rows = answered(house, asking)
            bent = [(word,), (word, *rows, rows[0]), (), ("worst", *rows), ("", *rows), ("best",), ("best", *rows[:1])]
            bent += [(other, *rows) for other in ("cant", "endless", "best") if other != word]
            bent += [(word, *rows[::-1])] if len(rows) == 2 else []
            for at, row in enumerate(rows):
                opposite = tuple(-sign for sign in row)
                thing = chance.randrange(house.things())
                other = (row[thing] + chance.choice((2, 3))) % 3 - 1
                turned_there = (*row[:thing], other, *row[thing + 1:])
                for new in (opposite, turned_there, (0,) * house.things()):
                    bent.append((word, *rows[:at], new, *rows[at + 1:]))
            for answer in bent:
                self.assertIs(shows(house, asking, answer), answer in good, (str(house), asking, answer))
                if answer[:1] != (word,) or len(answer) != len(rows) + 1:
                    self.assertNotIn(answer, good)

    def test_no_paper_of_another_kind_where_a_best_one_is_told(self):
        for house, plain, asking in ASKED[::3]:
            if answered(house, asking)[0] == "best":
                for ring in plain.rings:
                    self.assertIs(shows(house, asking, ("cant", ring)), False)
                for cut in plain.cuts:
                    self.assertIs(shows(house, asking, ("endless", cut)), False)

    def test_rows_that_are_no_rings_or_cuts(self):
        # The row is an asked one that stands, and no cut.
        house = spread(3, 2)
        asking = ("greatest", 1, 0, (), (), ())
        self.assertTrue(stands(house, (1, 1, 1)))
        for ring in ((1, -1, 1), (-1, 1, -1), (0, 0, 0)):
            self.assertIs(shows(house, asking, ("best", (1, 1, 1), ring)), False)
        self.assertIs(shows(house, asking, ("endless", (0, 1, 0))), False)
        self.assertIs(shows(house, asking, ("endless", (0, 1, 1))), True)
        self.assertIs(shows(house, asking, ("cant", (1, 0, 0))), False)

    def test_signs_of_both_at_one_thing(self):
        house = spread(4, 2)
        met = 0
        plain = PlainBase(house)
        for asking in askings_of(4):
            for cut, ring in product(plain.cuts, plain.rings):
                both = [thing for thing in (*asking[3], *asking[4]) if cut[thing] and ring[thing]]
                if both and shows(house, (*asking[:3], (), (), asking[5]), ("best", cut, ring)):
                    self.assertIs(shows(house, asking, ("best", cut, ring)), False)
                met += len(both)
        self.assertGreater(met, 100)


class Refusals(unittest.TestCase):

    def refused(self, kind, house, asking):
        for asked in (lambda: answered(house, asking), lambda: shows(house, asking, ("cant", (0,) * house.things())),
                      lambda: shows(house, asking, ("none",))):
            with self.subTest(asking=asking), self.assertRaises(kind) as caught:
                asked()
            self.assertEqual(caught.exception.word, kind.__name__)
            self.assertIsInstance(caught.exception, CleaveError)

    def test_no_askings(self):
        for house in (spread(7, 3), spread(2, 1), House(0, 0, [1])):
            for asking in (
                ("most", 3, 0, (), (), ()), ("least", 3, 3, (), (), ()), ("least", 7, 0, (), (), ()),
                ("least", 0, -1, (), (), ()), ("greatest", 1, 0, (2, 2), (), ()), ("greatest", 1, 0, (3, 2), (), ()),
                ("greatest", 1, 0, (2,), (2,), ()), ("greatest", 1, 0, (), (), (1,)), ("greatest", 1, 0, (), (7,), ()),
                ("", 1, 0, (), (), ()), ("greatest", 1, 0, (), (0,), ()), ("greatest", 999999999, 0, (), (), ()),
            ):
                self.refused(BadAsking, house, asking)

    def test_things_that_the_house_has_not(self):
        for many in range(7):
            house = spread(many, many // 2)
            self.refused(BadThing, house, ("greatest", many, 0 if many else 1, (), (), ()))
            self.refused(BadThing, house, ("least", 0 if many else 1, many, (), (), ()))
            self.refused(BadThing, house, ("least", 6 if many < 6 else 0, 6 if many == 6 else 5, (), (), ()))
        for at in range(3):
            groups = [(), (), ()]
            groups[at] = (2, 4)
            self.refused(BadThing, spread(4, 2), ("greatest", 1, 0, *groups))
            self.assertTrue(answered(spread(5, 2), ("greatest", 1, 0, *groups)))

    def test_which_refusal_goes_first(self):
        house = spread(3, 1)
        self.refused(BadAsking, house, ("most", 6, 0, (), (), ()))
        self.refused(BadAsking, house, ("least", 6, 6, (), (), ()))
        self.refused(BadAsking, house, ("least", 5, 4, (2, 1), (), ()))
        self.refused(BadAsking, house, ("least", 5, 4, (), (), (7,)))


class NothingChanges(unittest.TestCase):

    def test_what_is_handed_in_stays_and_may_be_changed_later(self):
        house = spread(5, 2)
        asking = ["greatest", 1, 0, [2], [3], [4]]
        answer = answered(house, asking)
        self.assertEqual(asking, ["greatest", 1, 0, [2], [3], [4]])
        kept = [answer[0], *[list(row) for row in answer[1:]]]
        self.assertIs(shows(house, asking, kept), True)
        self.assertEqual(kept, [answer[0], *[list(row) for row in answer[1:]]])
        asking[3].append(9)
        self.assertEqual(answered(house, ("greatest", 1, 0, (2,), (3,), (4,))), answer)
        self.assertEqual(house, spread(5, 2))

    def test_lists_and_tuples_alike(self):
        for house, _, asking in ASKED[::40]:
            handed = [*asking[:3], *[list(group) for group in asking[3:]]]
            self.assertEqual(answered(house, handed), answered(house, asking))


if __name__ == "__main__":
    unittest.main()
