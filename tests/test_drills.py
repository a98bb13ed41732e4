import unittest
from itertools import combinations
from random import Random

from tests.sums import loss_of, some_plan
from tests.support import (
    LOOP, PARALLEL, SINGLE, WRONG, fraction, fractions, lacking, ratio, ratios, some_full_grid, some_joined_grid,
)
from wattkeep.cascades import cascade, left_behind
from wattkeep.dispatch import cheapest
from wattkeep.drills import drills, falls_with, weakest
from wattkeep.errors import BadGrid, BadName, BadNumber, BadPlan
from wattkeep.shedding import best_plan, least_shed, lost

PLAN = (ratios(5, 0), ratios(0))
NOT_MOST = WRONG + (0, 3, 10, -1, (1, 1), (2,), "1")
# Two ways from p to n, of which the one can bear all and the other one less, and a load at the plant.
WAYS = (
    ("a", "b"), (("x", "a", "b", 1, 8), ("y", "a", "b", 1, 4), ("z", "b", "a", 2, 2)), (("p", "a", 20, 1),),
    (("n", "b", 8, 50), ("m", "a", 3, 7)),
)
WAYS_PLAN = (ratios(11), ratios(0, 0))


def behind(grid, plan, names):
    """Return (count of rounds, plan) behind the falls of some lines when nobody acts."""
    left, now = left_behind(grid, names, plan)
    rounds = cascade(left, now)
    return len(rounds), rounds[-1][1] if rounds else now


def lots_of(grid, most):
    names = [line[0] for line in grid[1]]
    return [lot for count in range(1, most + 1) for lot in combinations(names, count)]


def right_drills(grid, plan, most):
    found = []
    for names in lots_of(grid, most):
        rounds, later = behind(grid, plan, names)
        least = loss_of(grid, least_shed(lacking(grid, names))[0])
        found.append((names, rounds, ratio(loss_of(grid, later)), ratio(least)))
    return tuple(found)


def some_case(random):
    """Return a grid and a plan of it, one that holds or any."""
    grid = random.choice([some_joined_grid, some_joined_grid, some_full_grid])(random)
    grid = (grid[0], grid[1][:6]) + grid[2:]
    return grid, random.choice([best_plan(grid)[0], some_plan(random, grid)])


class Drills(unittest.TestCase):
    def test_by_hand(self):
        # Behind either fall the other line bears 5, more than 3, and trips: n is served by q alone, which makes nothing.
        self.assertEqual(
            drills(PARALLEL, PLAN, 1), ((("x",), 1, ratio(250), ratio(0)), (("y",), 1, ratio(250), ratio(0)))
        )
        self.assertEqual(drills(PARALLEL, PLAN, 2)[2:], ((("x", "y"), 0, ratio(250), ratio(0)),))
        # The line that stands bears the 3 of p; without both what q makes is left.
        plan = (ratios(3, 2), ratios(0))
        self.assertEqual(
            drills(PARALLEL, plan, 2),
            ((("x",), 0, ratio(0), ratio(0)), (("y",), 0, ratio(0), ratio(0)), (("x", "y"), 0, ratio(150), ratio(0))),
        )
        # Without x the ways y and z bear 16/3 and 8/3, more than 4 and 2. Without y z trips, and x by itself bears all:
        # to keep z 2 must be shed, so that less is lost if nobody acts.
        self.assertEqual(
            drills(WAYS, WAYS_PLAN, 2),
            ((("x",), 1, ratio(400), ratio(100)), (("y",), 1, ratio(0), ratio(100)), (("z",), 0, ratio(0), ratio(0)),
             (("x", "y"), 1, ratio(400), ratio(300)), (("x", "z"), 1, ratio(400), ratio(200)),
             (("y", "z"), 0, ratio(0), ratio(0))),
        )
        for most in (1, 2):
            self.assertEqual(drills(SINGLE, ((), ()), most), ())
        one = (PARALLEL[0], PARALLEL[1][:1]) + PARALLEL[2:]
        self.assertEqual(drills(one, plan, 2), ((("x",), 0, ratio(150), ratio(0)),))

    def test_rounds(self):
        # Each of three lines bears 3; two of them 4.5 each, more than x can, and then the last one all 9.
        row = (
            ("a", "b"), (("x", "a", "b", 5, 4), ("y", "a", "b", 5, 5), ("z", "a", "b", 5, 9)), (("p", "a", 9, 1),),
            (("n", "b", 9, 5),),
        )
        self.assertEqual(
            drills(row, (ratios(9), ratios(0)), 2),
            ((("x",), 0, ratio(0), ratio(0)), (("y",), 1, ratio(0), ratio(5)), (("z",), 2, ratio(45), ratio(5)),
             (("x", "y"), 0, ratio(0), ratio(0)), (("x", "z"), 1, ratio(45), ratio(20)), (("y", "z"), 1, ratio(45), ratio(25))),
        )
        # A plan that does not hold trips though the line that falls bears nothing.
        told = drills((row[0], row[1][:1] + (("y", "a", "b", 5, 0),), row[2], row[3]), (ratios(9), ratios(0)), 1)
        self.assertEqual(told, ((("x",), 1, ratio(45), ratio(45)), (("y",), 1, ratio(45), ratio(25))))

    def test_sums(self):
        random = Random(191)
        rounds, losses = [], 0
        for _ in range(60):
            grid, plan = some_case(random)
            most = random.choice([1, 2])
            told = drills(grid, plan, most)
            self.assertEqual(told, right_drills(grid, plan, most), (grid, plan, most))
            for names, count, worth, least in told:
                self.assertEqual(least, lost(lacking(grid, names), least_shed(lacking(grid, names))[0]))
                rounds.append(count)
                losses += worth != least
        for count in (0, 1, 2):
            self.assertGreater(rounds.count(count), 5, rounds)
        self.assertGreater(losses, 40)

    def test_wrong_arguments(self):
        for most in NOT_MOST:
            for call in (lambda value: drills(PARALLEL, PLAN, value), lambda value: weakest(PARALLEL, PLAN, value),
                         lambda value: falls_with(PARALLEL, PLAN, "n", value), lambda value: drills(SINGLE, ((), ()), value)):
                with self.assertRaises(BadNumber, msg=most):
                    call(most)
        for value in WRONG + ((ratios(5, 1), ratios(0)), (ratios(5, 0), ratios(1)), (ratios(10, -5), ratios(0))):
            for call in (lambda plan: drills(PARALLEL, plan, None), lambda plan: weakest(PARALLEL, plan, 0),
                         lambda plan: falls_with(PARALLEL, plan, "x", 0)):
                with self.assertRaises(BadPlan, msg=value):
                    call(value)
        for name in WRONG + ("x", "p", "a", "N", ("n",)):
            with self.assertRaises(BadName, msg=name):
                falls_with(PARALLEL, PLAN, name, 0)
        for value in WRONG:
            for call in (lambda grid: drills(grid, grid, grid), lambda grid: weakest(grid, grid, grid),
                         lambda grid: falls_with(grid, grid, grid, grid)):
                with self.assertRaises(BadGrid, msg=value):
                    call(value)


class Weakest(unittest.TestCase):
    def test_by_hand(self):
        self.assertEqual(weakest(PARALLEL, PLAN, 1), (("x",), 1, ratio(250), ratio(0)))
        self.assertEqual(weakest(PARALLEL, PLAN, 2), (("x",), 1, ratio(250), ratio(0)))
        self.assertEqual(weakest(PARALLEL, (ratios(3, 2), ratios(0)), 1), (("x",), 0, ratio(0), ratio(0)))
        self.assertEqual(weakest(PARALLEL, (ratios(3, 2), ratios(0)), 2), (("x", "y"), 0, ratio(150), ratio(0)))
        turned = (PARALLEL[0], PARALLEL[1][::-1]) + PARALLEL[2:]
        self.assertEqual(weakest(turned, PLAN, 2)[0], ("y",))
        for most in (1, 2):
            self.assertIs(weakest(SINGLE, ((), ()), most), None)

    def test_the_first_with_the_greatest_worth(self):
        random = Random(192)
        later, equals = 0, 0
        for _ in range(60):
            grid, plan = some_case(random)
            most = random.choice([1, 2])
            known = right_drills(grid, plan, most)
            worths = [fraction(drill[2]) for drill in known]
            place = worths.index(max(worths)) if worths else None
            self.assertEqual(weakest(grid, plan, most), known[place] if known else None)
            later += bool(place)
            equals += bool(worths) and worths.count(max(worths)) > 1
        self.assertGreater(min(later, equals), 10)


class FallsWith(unittest.TestCase):
    def test_by_hand(self):
        told = drills(WAYS, WAYS_PLAN, 2)
        self.assertEqual(falls_with(WAYS, WAYS_PLAN, "n", 2), (told[0], told[3], told[4]))
        self.assertEqual(falls_with(WAYS, WAYS_PLAN, "n", 1), told[:1])
        self.assertEqual(falls_with(WAYS, WAYS_PLAN, "m", 2), ())
        self.assertEqual(falls_with(LOOP, (ratios(5, 6, 0), ratios(0, 0)), "m", 1)[0][0], ("w",))
        single = (("a",), (), (), (("n", "a", 3, 4),))
        self.assertEqual(falls_with(single, ((), ratios(3)), "n", 2), ())

    def test_a_load_that_sheds_already(self):
        # Ahead of any fall 1 of n is shed; behind that of y, and of z, it is the same 1.
        plan = (ratios(10), ratios(1, 0))
        self.assertEqual([drill[2] for drill in drills(WAYS, plan, 1)], [ratio(400), ratio(50), ratio(50)])
        self.assertEqual([drill[0] for drill in falls_with(WAYS, plan, "n", 1)], [("x",)])
        # A load that is without power stays so.
        none = (ratios(0), ratios(8, 3))
        self.assertEqual(falls_with(WAYS, none, "n", 2), ())

    def test_sums(self):
        random = Random(193)
        stay, change = 0, 0
        for _ in range(60):
            grid, plan = some_case(random)
            most = random.choice([1, 2])
            for at, load in enumerate(grid[3]):
                right = tuple(
                    drill for drill in right_drills(grid, plan, most)
                    if fractions(behind(grid, plan, drill[0])[1][1])[at] != fraction(plan[1][at])
                )
                told = falls_with(grid, plan, load[0], most)
                self.assertEqual(told, right)
                change += len(told)
                stay += len(lots_of(grid, most)) - len(told)
        self.assertGreater(min(stay, change), 100, (stay, change))

    def test_a_plan_that_is_the_cheapest(self):
        told = cheapest(LOOP)
        self.assertEqual([drill[0] for drill in falls_with(LOOP, told[1], "m", 1)],
                         [drill[0] for drill in drills(LOOP, told[1], 1) if drill[2] != (0, 1)])


if __name__ == "__main__":
    unittest.main()
