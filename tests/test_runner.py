"""Point 20: runs from a bound to an aim; points 1 and 2 where they speak of these."""
import unittest
from itertools import permutations
from random import Random

from plain_runs import PlainBase, plain_run
from sample_houses import all_houses
from signcleave.errors import BadThing, CleaveError, HouseError, NoStart, Nothing, Same
from signcleave.house import House
from signcleave.makers import of_columns, of_web, spread
from signcleave.minors import turned
from signcleave.runner import Runner


def some_houses():
    """The houses of the tests, and those of more things also turned, so that runs are longer."""
    chance = Random(7)
    found = dict(all_houses())
    for name, house in list(found.items()):
        if house.things() >= 5:
            for _ in range(3):
                things = [thing for thing in range(house.things()) if chance.random() < 0.5]
                found[f"{name} turned at {things}"] = turned(house, things)
    return found


HOUSES = some_houses()
PLAIN = {str(house): PlainBase(house) for house in HOUSES.values()}
# Thing 3 is a loop, thing 4 a bridge.
LOOP_AND_BRIDGE = of_columns([[1, 0, 0], [0, 1, 0], [1, 1, 0], [0, 0, 0], [0, 0, 1]])


def each_run():
    """(house, bound, aim, plain steps) of each run that can begin."""
    for house in HOUSES.values():
        plain = PLAIN[str(house)]
        for bound, aim in permutations(range(house.things()), 2):
            if not plain.is_loop(bound) and not plain.is_bridge(aim):
                yield house, bound, aim, plain_run(plain, bound, aim)


RUNS = list(each_run())
LONGEST = max(RUNS, key=lambda row: len(row[3]))


def told(runner):
    """All that a runner tells without a step."""
    return (runner.base(), runner.point(), runner.price(), runner.wrong(), runner.verdict(), len(runner))


class Runs(unittest.TestCase):

    def check_place(self, runner, step, made):
        base, point, price, wrong, coming = step
        verdict = coming if type(coming[0]) is str else None
        self.assertEqual(told(runner), (base, point, price, wrong, verdict, made))

    def test_each_step_of_each_run(self):
        met = set()
        for house, bound, aim, steps in RUNS:
            runner = Runner(house, bound=bound, aim=aim)
            for made, step in enumerate(steps):
                self.check_place(runner, step, made)
                if made < len(steps) - 1:
                    self.assertEqual(runner.step(), step[4])
            for _ in range(2):
                self.assertIsNone(runner.step())
                self.check_place(runner, steps[-1], len(steps) - 1)
            met.add((steps[-1][4][0], len(steps) == 1))
        self.assertEqual(met, {(word, once) for word in ("best", "cant", "endless") for once in (True, False)})

    def test_runs_are_long_enough_to_tell_much(self):
        self.assertGreaterEqual(len(LONGEST[3]), 5)
        self.assertGreater(len(RUNS), 3000)

    def test_no_base_comes_twice(self):
        for house, bound, aim, _ in RUNS:
            runner = Runner(house, bound=bound, aim=aim)
            bases = [runner.base()]
            while runner.step() is not None:
                bases.append(runner.base())
                self.assertIn(bound, bases[-1])
                self.assertNotIn(aim, bases[-1])
            self.assertEqual(len(bases), len(set(bases)))
            self.assertLessEqual(set(bases), set(house.bases()))

    def test_the_papers_show_what_they_are_told_to(self):
        for house, bound, aim, _ in RUNS:
            plain = PLAIN[str(house)]
            runner = Runner(house, bound=bound, aim=aim)
            runner.run()
            word, *papers = runner.verdict()
            others = [thing for thing in range(house.things()) if thing not in (bound, aim)]
            if word == "best":
                cut, ring = papers
                self.assertIn(cut, plain.cuts)
                self.assertIn(ring, plain.rings)
                self.assertEqual((cut[bound], ring[aim]), (1, 1))
                for thing in others:
                    self.assertIn((cut[thing], ring[thing]), [(0, 0), (0, 1), (1, 0)])
                continue
            paper, = papers
            self.assertIn(paper, plain.rings if word == "cant" else plain.cuts)
            self.assertEqual((paper[bound], paper[aim]), (1, 0) if word == "cant" else (0, 1))
            self.assertTrue(all(paper[thing] >= 0 for thing in others))

    def test_a_few_by_hand(self):
        runner = Runner(spread(2, 1))
        self.assertEqual(told(runner), ((0,), (1, 1), (-1, 1), None, ("best", (1, 1), (-1, 1)), 0))
        self.assertIsNone(runner.step())
        runner = Runner(of_web(3, [(0, 1), (1, 2), (2, 0)]))
        self.assertEqual(told(runner), ((0, 2), (1, -1, 0), (1, 1, 1), None, ("best", (1, -1, 0), (1, 1, 1)), 0))
        runner = Runner(turned(spread(3, 1), [2]))
        self.assertEqual(told(runner), ((0,), (1, 1, -1), (-1, 1, 0), 2, ("cant", (1, 0, 1)), 0))
        runner = Runner(House(3, 2, [1, 1, -1]))
        self.assertEqual(told(runner), ((0, 2), (1, -1, 0), (1, 1, -1), 2, ("endless", (0, 1, 1)), 0))

    def test_left_out_bound_and_aim(self):
        house = spread(4, 2)
        self.assertEqual(told(Runner(house)), told(Runner(house, bound=0, aim=1)))
        self.assertEqual(told(Runner(house, bound=2)), told(Runner(house, bound=2, aim=1)))
        self.assertEqual(told(Runner(house, aim=3)), told(Runner(house, aim=3, bound=0)))
        self.assertRaises(TypeError, Runner, house, 0, 1)
        self.assertRaises(TypeError, Runner, house, 0)
        self.assertEqual(told(Runner(house=house)), told(Runner(house)))


class Running(unittest.TestCase):

    def test_all_to_the_end(self):
        for house, bound, aim, steps in RUNS:
            runner = Runner(house, bound=bound, aim=aim)
            self.assertEqual(runner.run(), len(steps) - 1)
            self.assertEqual((len(runner), runner.verdict()), (len(steps) - 1, steps[-1][4]))
            self.assertEqual(runner.run(), 0)

    def test_so_many_at_the_most(self):
        house, bound, aim, steps = LONGEST
        all_made = len(steps) - 1
        for most in (0, 1, 2, all_made - 1, all_made, all_made + 1, 64, 999999999):
            runner = Runner(house, bound=bound, aim=aim)
            made = min(most, all_made)
            self.assertEqual(runner.run(most=most), made)
            self.assertEqual(len(runner), made)
            self.assertEqual(runner.base(), steps[made][0])
            self.assertEqual(runner.run(most=0), 0)
            self.assertEqual(runner.run(most=None), all_made - made)
            self.assertEqual(len(runner), all_made)
        self.assertRaises(TypeError, Runner(house, bound=bound, aim=aim).run, 1)

    def test_one_by_one(self):
        house, bound, aim, steps = LONGEST
        runner = Runner(house, bound=bound, aim=aim)
        for made in range(1, len(steps)):
            self.assertEqual(runner.run(most=1), 1)
            self.assertEqual((len(runner), runner.base()), (made, steps[made][0]))
        self.assertEqual(runner.run(most=1), 0)


class Back(unittest.TestCase):

    def test_behind_the_end_and_behind_each_step(self):
        for house, bound, aim, steps in RUNS:
            runner = Runner(house, bound=bound, aim=aim)
            places = [told(runner)]
            changes = []
            while (change := runner.step()) is not None:
                changes.append(change)
                places.append(told(runner))
                self.assertEqual(runner.back(), change)
                self.assertEqual(told(runner), places[-2])
                self.assertEqual(runner.step(), change)
                self.assertEqual(told(runner), places[-1])
            while changes:
                self.assertEqual(told(runner), places.pop())
                self.assertEqual(runner.back(), changes.pop())
            self.assertEqual(told(runner), places[0])
            self.assertRaises(Nothing, runner.back)

    def test_where_nothing_is_to_be_taken_back(self):
        runner = Runner(spread(4, 2))
        before = told(runner)
        for _ in range(2):
            with self.assertRaises(Nothing) as caught:
                runner.back()
            self.assertEqual(caught.exception.word, "Nothing")
            self.assertIsInstance(caught.exception, HouseError)
            self.assertEqual(told(runner), before)

    def test_all_back_and_all_again(self):
        house, bound, aim, steps = LONGEST
        runner = Runner(house, bound=bound, aim=aim)
        runner.run()
        end = told(runner)
        for _ in steps[1:]:
            pair = runner.back()
            self.assertIs(type(pair), tuple)
        self.assertEqual((len(runner), runner.base()), (0, steps[0][0]))
        self.assertEqual(runner.run(), len(steps) - 1)
        self.assertEqual(told(runner), end)


class Refusals(unittest.TestCase):

    def refused(self, kind, house, why=None, **handed):
        with self.subTest(kind=kind.__name__, **handed), self.assertRaises(kind) as caught:
            Runner(house, **handed)
        self.assertEqual(caught.exception.word, kind.__name__)
        self.assertIsInstance(caught.exception, CleaveError)
        if why is not None:
            self.assertEqual(caught.exception.why, why)

    def test_things(self):
        for house in (spread(4, 2), LOOP_AND_BRIDGE):
            for thing in (-1, house.things(), 64, 999999999, -999999999):
                self.refused(BadThing, house, bound=thing, aim=0)
                self.refused(BadThing, house, bound=0, aim=thing)
                self.refused(BadThing, house, bound=thing, aim=thing)
        self.refused(BadThing, House(0, 0, [1]))
        self.refused(BadThing, House(1, 0, [1]))
        self.refused(BadThing, House(1, 1, [1]))
        self.refused(BadThing, House(1, 1, [1]), bound=0, aim=1)

    def test_same(self):
        for thing in range(5):
            self.refused(Same, LOOP_AND_BRIDGE, bound=thing, aim=thing)
        self.refused(Same, House(1, 0, [1]), aim=0)
        self.refused(Same, House(1, 1, [1]), aim=0)
        self.refused(Same, spread(2, 1), bound=1)

    def test_no_start(self):
        for aim in (0, 1, 2, 4):
            self.refused(NoStart, LOOP_AND_BRIDGE, "loop", bound=3, aim=aim)
        for bound in (0, 1, 2):
            self.refused(NoStart, LOOP_AND_BRIDGE, "bridge", bound=bound, aim=4)
        self.refused(NoStart, spread(2, 0), "loop")
        self.refused(NoStart, spread(2, 2), "bridge")
        self.assertEqual(Runner(LOOP_AND_BRIDGE, bound=4, aim=3).verdict()[0], "best")

    def test_just_those_that_cant_begin_are_refused(self):
        for house in HOUSES.values():
            plain = PLAIN[str(house)]
            for bound, aim in permutations(range(house.things()), 2):
                if plain.is_loop(bound):
                    self.refused(NoStart, house, "loop", bound=bound, aim=aim)
                elif plain.is_bridge(aim):
                    self.refused(NoStart, house, "bridge", bound=bound, aim=aim)
                else:
                    self.assertEqual(Runner(house, bound=bound, aim=aim).base(), plain.starts(bound, aim)[0])

    def test_which_refusal_goes_first(self):
        self.refused(BadThing, LOOP_AND_BRIDGE, bound=3, aim=5)
        self.refused(BadThing, LOOP_AND_BRIDGE, bound=5, aim=4)
        self.refused(Same, LOOP_AND_BRIDGE, bound=3, aim=3)
        self.refused(Same, LOOP_AND_BRIDGE, bound=4, aim=4)
        self.refused(NoStart, LOOP_AND_BRIDGE, "loop", bound=3, aim=4)


class OwnWays(unittest.TestCase):

    def test_twins(self):
        house, bound, aim, steps = LONGEST
        for made in range(len(steps)):
            one = Runner(house, bound=bound, aim=aim)
            one.run(most=made)
            other = one.twin()
            self.assertIs(type(other), Runner)
            before = told(one)
            self.assertEqual(told(other), before)
            other.run()
            self.assertEqual(told(one), before)
            self.assertEqual(len(other), len(steps) - 1)
            one.run()
            while len(other) > 0:
                other.back()
            self.assertEqual((len(one), one.verdict()), (len(steps) - 1, steps[-1][4]))
            self.assertEqual((len(other), other.base()), (0, steps[0][0]))
            self.assertRaises(Nothing, other.back)

    def test_a_twin_takes_back_what_was_done_ahead_of_it(self):
        house, bound, aim, steps = LONGEST
        one = Runner(house, bound=bound, aim=aim)
        one.run()
        other = one.twin()
        for step in reversed(steps[:-1]):
            self.assertEqual(other.back(), step[4])
            self.assertEqual(other.base(), step[0])
        self.assertEqual(len(one), len(steps) - 1)

    def test_asking_changes_nothing(self):
        house, bound, aim, steps = LONGEST
        runner = Runner(house, bound=bound, aim=aim)
        for _ in range(3):
            self.assertEqual(told(runner), told(Runner(house, bound=bound, aim=aim)))
        self.assertEqual(runner.step(), steps[0][4])
        before = str(house)
        runner.run()
        self.assertEqual(str(house), before)


if __name__ == "__main__":
    unittest.main()
