import unittest
from fractions import Fraction
from random import Random

from tests.sums import (
    NO_FALLS, bridge_names, in_row, injections, is_cheapest, is_least, is_safe_plan, is_some_plan, loss_of, ring_names,
    some_plan, try_bent,
)
from tests.support import (
    LOOP, NOT_OVER, ONE, PARALLEL, SINGLE, WRONG, fraction, fractions, lacking, ratio, ratios, some_full_grid,
    some_joined_grid,
)
from wattkeep.dispatch import cheapest, cost_of, holds, shows_cheapest
from wattkeep.errors import BadGrid, BadName, BadNumber, BadPlan, Bridge
from wattkeep.falls import behind_fall
from wattkeep.safe import behind_each, is_safe, mended, safe_plan, shows_mended, shows_safe_plan
from wattkeep.shedding import least_shed, lost

# The same with a line told the other way.
TURNED = (PARALLEL[0], (("x", "b", "a", 1, 3), ("y", "a", "b", 1, 3)), PARALLEL[2], PARALLEL[3])
CHAIN = (
    ("a", "b"), (("x", "a", "b", 1, 5),), (("p", "a", 9, 1), ("q", "b", 3, 4)), (("n", "b", 5, 50), ("m", "a", 1, 2)),
)
NOT_NAMES = ("x", ["x"], {"x": 1}, ("a",), ("x", "n"), ("p",), (7,), (None,), ("x", ("x",)), ("x", "zz"), 7, None, True, ("",))
NOT_REACH = (
    (), (1,), (1, 1, 1), [1, 1], (1, -1), (1000, 1), (1, True), (False, 1), (1, None), (1, "1"), (1, (1, 1)), 1, None, {}, "11",
)


def falls_of(names, over):
    return (names, fraction(over))


def mosts_in_reach(grid, plan, reach):
    return [min(Fraction(plant[2]), made + more) for plant, made, more in zip(grid[2], fractions(plan[0]), reach)]


def is_mended(grid, plan, name, reach, told):
    return len(told) == 2 and is_least(lacking(grid, (name,)), NO_FALLS, mosts_in_reach(grid, plan, reach), in_row(told))


def some_case(random):
    return random.choice([some_full_grid, some_joined_grid])(random)


def some_falls(random, grid):
    """Return names of some lines that are no bridges, at times one twice, and an over."""
    names = ring_names(grid)
    many = random.randint(0, min(3, len(names)))
    lot = tuple(random.choice(names) for _ in range(many))
    return lot, random.choice([ONE, ONE, (2, 1), (3, 2), (9, 1), (11, 10)])


class IsSafe(unittest.TestCase):
    def test_just_the_limit_and_just_beyond(self):
        for grid in (PARALLEL, TURNED):
            for over in (ONE, (3, 2), (4, 3), (9, 1), (11, 9)):
                # All that goes from a to b is on the line that is left.
                most = fraction(over) * 3
                for made, right in (
                    (most, most <= 5), (most + Fraction(1, 1000), False), (min(Fraction(5), most - Fraction(1, 1000)), True),
                    (0, True),
                ):
                    if made <= 5:
                        plan = (ratios(made, 5 - made), ratios(0))
                        for names in (("x",), ("y",), ("x", "y"), ("y", "x", "y")):
                            self.assertIs(is_safe(grid, plan, names, over), right, (made, over, names))

    def test_the_other_way(self):
        turned = (PARALLEL[0], PARALLEL[1], (("p", "b", 9, 1), ("q", "a", 9, 4)), (("n", "a", 5, 50),))
        for made, right in ((3, True), (Fraction(3001, 1000), False), (4, False), (2, True)):
            self.assertIs(is_safe(turned, (ratios(made, 5 - made), ratios(0)), ("x", "y"), ONE), right)
            self.assertIs(is_safe(turned, (ratios(made, 5 - made), ratios(0)), ("x", "y"), (2, 1)), True)

    def test_the_plan_must_hold_whatever_over_is(self):
        plan = (ratios(7, 0), ratios(0))
        grid = PARALLEL[:3] + ((("n", "b", 7, 50),),)
        for names in ((), ("x",), ("x", "y")):
            self.assertIs(is_safe(grid, plan, names, (9, 1)), False)
        self.assertIs(is_safe(grid, (ratios(6, 1), ratios(0)), ("x", "y"), (9, 1)), True)

    def test_no_names_and_no_lines(self):
        random = Random(81)
        for _ in range(40):
            grid = some_case(random)
            plan = some_plan(random, grid)
            self.assertIs(is_safe(grid, plan, (), ONE), holds(grid, plan))
            self.assertIs(is_safe(grid, plan, (), (9, 1)), holds(grid, plan))
        self.assertIs(is_safe(SINGLE, ((), ()), (), ONE), True)

    def test_against_behind_fall(self):
        random = Random(82)
        found = []
        for _ in range(300):
            grid = some_case(random)
            plan = some_plan(random, grid)
            names, over = some_falls(random, grid)
            right = holds(grid, plan)
            for name in names:
                behind = fractions(behind_fall(grid, injections(grid, plan), name))
                right = right and all(abs(flow) <= line[4] * fraction(over) for flow, line in zip(behind, grid[1]))
            found.append((right, bool(names)))
            self.assertIs(is_safe(grid, plan, names, over), right)
        self.assertGreater(found.count((True, True)), 30)
        self.assertGreater(found.count((False, True)), 15)

    def test_wrong_names_and_numbers(self):
        plan = (ratios(3, 2), ratios(0))
        for names in NOT_NAMES:
            with self.assertRaises(BadName, msg=names):
                is_safe(PARALLEL, plan, names, ONE)
            with self.assertRaises(BadName, msg=names):
                safe_plan(PARALLEL, names, ONE)
            with self.assertRaises(BadName, msg=names):
                shows_safe_plan(PARALLEL, names, ONE, None)
        for over in NOT_OVER:
            with self.assertRaises(BadNumber, msg=over):
                is_safe(PARALLEL, plan, ("x",), over)
            with self.assertRaises(BadNumber, msg=over):
                safe_plan(PARALLEL, (), over)
            with self.assertRaises(BadNumber, msg=over):
                shows_safe_plan(PARALLEL, (), over, None)

    def test_bridges(self):
        flat = (ratios(0, 5, 0), ratios(0, 5)) + ((),)
        plan = (ratios(0, 6, 0), ratios(0, 5))
        for names, error in ((("w",), Bridge), (("x", "w"), Bridge), (("w", "x", "w"), Bridge), (("w", "zz"), BadName)):
            with self.assertRaises(error):
                is_safe(LOOP, plan, names, ONE)
            with self.assertRaises(error):
                safe_plan(LOOP, names, ONE)
            with self.assertRaises(error):
                shows_safe_plan(LOOP, names, ONE, flat)
            # What is wrong with the names is told ahead of what is wrong with over, and behind the plan's error.
            with self.assertRaises(error):
                is_safe(LOOP, plan, names, None)
            with self.assertRaises(BadPlan):
                is_safe(LOOP, flat, names, None)
        self.assertIs(is_safe(LOOP, plan, ("x", "y", "z"), ONE), True)


class SafePlan(unittest.TestCase):
    def test_by_hand(self):
        for grid in (PARALLEL, TURNED):
            for names, over, made in (
                ((), ONE, (5, 0)), (("x",), ONE, (3, 2)), (("x", "y"), ONE, (3, 2)), (("x", "x"), ONE, (3, 2)),
                (("y",), (4, 3), (4, 1)), (("y",), (9, 1), (5, 0)), (("x",), (7, 6), (Fraction(7, 2), Fraction(3, 2))),
            ):
                told = safe_plan(grid, names, over)
                self.assertEqual(told[:2], ("plan", (ratios(*made), ratios(0))))
                self.assertEqual(len(told[2]), len(names) + 1)
                self.assertTrue(is_cheapest(grid, falls_of(names, over), told))

    def test_none_by_hand(self):
        weak = PARALLEL[:2] + ((("p", "a", 9, 1), ("q", "b", 1, 4)),) + PARALLEL[3:]
        self.assertEqual(safe_plan(weak, (), ONE)[0], "plan")
        for names, over, word in (
            (("x",), ONE, "none"), (("x", "y"), ONE, "none"), (("x", "x"), ONE, "none"), (("y",), (4, 3), "plan"),
            (("y",), (5, 4), "none"),
        ):
            told = safe_plan(weak, names, over)
            self.assertEqual((told[0], len(told)), (word, 2 + (word == "plan")))
            self.assertEqual(len(told[-1]), len(names) + 1)
            self.assertTrue(is_cheapest(weak, falls_of(names, over), told))

    def test_sums(self):
        random = Random(83)
        found = []
        for _ in range(250):
            grid = some_case(random)
            names, over = some_falls(random, grid)
            told = safe_plan(grid, names, over)
            found.append((told[0], len(names)))
            self.assertTrue(is_cheapest(grid, falls_of(names, over), told), (grid, names, over))
            self.assertIs(shows_safe_plan(grid, names, over, told), True)
            self.assertEqual(safe_plan(grid, names, over), told)
            if told[0] == "plan":
                self.assertIs(is_safe(grid, told[1], names, over), True)
        for word in ("plan", "none"):
            for many in range(4):
                self.assertGreater(found.count((word, many)), 3, (word, many))

    def test_of_no_name_it_is_the_cheapest(self):
        random = Random(84)
        for _ in range(60):
            grid = some_case(random)
            told = safe_plan(grid, (), ONE)
            self.assertEqual(told[0], cheapest(grid)[0])
            self.assertIs(shows_cheapest(grid, told[:-1] + told[-1]), True)
            self.assertIs(shows_safe_plan(grid, (), ONE, in_row(cheapest(grid))), True)

    def test_more_falls_cost_no_less(self):
        for names in ((), ("x",), ("y",), ("z",), ("x", "y"), ("x", "y", "z")):
            told = safe_plan(LOOP, names, ONE)
            self.assertEqual(told[0], "plan")
            for name in ("x", "y", "z"):
                more = safe_plan(LOOP, names + (name,), ONE)
                self.assertTrue(is_cheapest(LOOP, falls_of(names + (name,), ONE), more))
                self.assertGreaterEqual(fraction(cost_of(LOOP, more[1])), fraction(cost_of(LOOP, told[1])))
        costs = [cost_of(LOOP, safe_plan(LOOP, names, ONE)[1]) for names in ((), ("x", "y", "z"))]
        self.assertNotEqual(costs[0], costs[1])

    def test_no_safe_plan_of_many_is_cheaper(self):
        random = Random(85)
        tried = 0
        for _ in range(150):
            grid = some_case(random)
            names, over = some_falls(random, grid)
            told = safe_plan(grid, names, over)
            for _ in range(10):
                plan = some_plan(random, grid)
                if is_safe_plan(grid, falls_of(names, over), plan) and not any(fractions(plan[1])):
                    tried += 1
                    self.assertEqual(told[0], "plan")
                    self.assertLessEqual(fraction(cost_of(grid, told[1])), fraction(cost_of(grid, plan)))
        self.assertGreater(tried, 50)


class ShowsSafePlan(unittest.TestCase):
    def test_other_right_answers(self):
        plan = (ratios(3, 2), ratios(0))
        none, zero = (ratios(0, 0), ratios(0, 0)), ratios(0, 0)
        # Behind the fall of x the price at b is 3 more, and what is common to both nodes may stand in any paper.
        for first, behind, right in (
            ((ratios(1, 1), zero), (ratios(0, 3), ratios(0, 3)), True),
            ((ratios(0, 0), zero), (ratios(1, 4), ratios(0, 3)), True),
            ((ratios(9, 9), zero), (ratios(-8, -5), ratios(0, 3)), True),
            ((ratios(1, 1), zero), (ratios(0, 3), ratios(3, 0)), False),
            ((ratios(1, 1), zero), (ratios(0, 3), ratios(0, -3)), False),
            ((ratios(1, 1), zero), (ratios(0, 2), ratios(0, 2)), False),
            ((ratios(0, 1), zero), (ratios(0, 3), ratios(0, 3)), False),
            ((ratios(1, 4), ratios(3, 3)), none, False),
            ((ratios(1, 4), zero), none, False),
        ):
            self.assertIs(shows_safe_plan(PARALLEL, ("x",), ONE, ("plan", plan, (first, behind))), right)
            # What is wrong behind the fall of x as it stands on x may be right behind that of y.
            other = behind == (ratios(0, 3), ratios(3, 0))
            self.assertIs(shows_safe_plan(PARALLEL, ("y",), ONE, ("plan", plan, (first, behind))), other)
            both = ("plan", plan, (first, behind, none))
            self.assertIs(shows_safe_plan(PARALLEL, ("x", "y"), ONE, both), right)
            self.assertIs(shows_safe_plan(PARALLEL, ("x", "x"), ONE, both), right)
            self.assertIs(shows_safe_plan(PARALLEL, ("x",), ONE, both), False)
            self.assertIs(shows_safe_plan(PARALLEL, ("x",), (2, 1), ("plan", plan, (first, behind))), False)

    def test_bent_in_one_place(self):
        random = Random(86)
        falses = 0
        lots = [(PARALLEL, ("x",), ONE), (TURNED, ("x", "y"), (4, 3)), (LOOP, ("x", "z"), ONE), (LOOP, (), ONE)]
        while len(lots) < 16:
            grid = some_case(random)
            if len(grid[0]) < 6:
                lots.append((grid,) + some_falls(random, grid))
        for grid, names, over in lots:
            falls = falls_of(names, over)
            falses += try_bent(
                self, safe_plan(grid, names, over), lambda told: is_cheapest(grid, falls, told),
                lambda told: shows_safe_plan(grid, names, over, told),
            )
        self.assertGreater(falses, 2000)

    def test_values_of_other_kinds(self):
        told = safe_plan(PARALLEL, ("x",), ONE)
        word, plan, papers = told
        for value in WRONG + ((word, plan), (word, papers), ("none", plan, papers), (word, papers, plan), (plan, papers),
                              (word, plan, papers[0]), (word, plan, papers[:1]), (word, plan, papers + papers[:1]),
                              (word, plan, papers[::-1]), (word, plan, list(papers)), (word, plan, None), ("none", None),
                              ("none", papers), list(told), (word, None, papers), (word, plan, (papers[0], None))):
            self.assertIs(shows_safe_plan(PARALLEL, ("x",), ONE, value), False, value)
            with self.assertRaises(BadGrid):
                shows_safe_plan(7, ("x",), ONE, value)


class Mended(unittest.TestCase):
    def test_by_hand(self):
        plan = (ratios(5, 0, 0), ratios(0))
        grid = (
            ("a", "b"), (("x", "a", "b", 1, 3), ("y", "a", "b", 1, 3)),
            (("p", "a", 9, 1), ("q", "b", 9, 4), ("r", "b", 1, 4)), (("n", "b", 5, 50),),
        )
        for reach, shed in (
            ((0, 0, 0), 2), ((9, 0, 0), 2), ((0, 1, 0), 1), ((0, 1, 1), 0), ((0, 0, 9), 1), ((0, 9, 0), 0), ((0, 999, 999), 0),
        ):
            later, paper = mended(grid, plan, "x", reach)
            self.assertEqual(later[1], ratios(shed))
            self.assertTrue(is_mended(grid, plan, "x", reach, (later, paper)))
            self.assertEqual((len(paper[0]), len(paper[1])), (2, 1))
            self.assertEqual(behind_each(grid, plan, reach), ratios(50 * shed, 50 * shed))

    def test_bridges(self):
        plan = (ratios(4, 2), ratios(0, 0))
        for reach, shed in (((0, 0), 3), ((0, 1), 2), ((0, 9), 2), ((9, 0), 3)):
            told = mended(CHAIN, plan, "x", reach)
            self.assertEqual(told[0][1], ratios(shed, 0))
            self.assertTrue(is_mended(CHAIN, plan, "x", reach, told))
            self.assertEqual(behind_each(CHAIN, plan, reach), ratios(50 * shed))

    def test_what_a_plant_made_counts_and_need_not_hold(self):
        # The plan puts 5 on a line that bears 3; parts are ratios.
        grid = (("a", "b"), (("x", "a", "b", 1, 3), ("y", "a", "b", 9, 3)), (("p", "a", 9, 1),), (("n", "b", 5, 50),))
        plan = ((ratio(5),), (ratio(0),))
        self.assertIs(holds(grid, plan), False)
        self.assertEqual(mended(grid, plan, "y", (0,))[0], (ratios(3), ratios(2)))
        low = ((ratio(5, 2),), (ratio(5, 2),))
        self.assertEqual(mended(grid, low, "y", (0,))[0], ((ratio(5, 2),), (ratio(5, 2),)))
        self.assertEqual(mended(grid, low, "y", (1,))[0], (ratios(3), ratios(2)))

    def test_sums_and_behind_each(self):
        random = Random(87)
        bridges = losses = 0
        for _ in range(60):
            grid = some_case(random)
            plan = random.choice([some_plan(random, grid), least_shed(grid)[0]])
            reach = tuple(random.choice([0, 0, 1, 5, 999]) for _ in grid[2])
            each = behind_each(grid, plan, reach)
            self.assertEqual(len(each), len(grid[1]))
            for line, worth in zip(grid[1], each):
                told = mended(grid, plan, line[0], reach)
                left = lacking(grid, (line[0],))
                bridges += line[0] in bridge_names(grid)
                losses += worth != (0, 1)
                self.assertTrue(is_mended(grid, plan, line[0], reach, told), (grid, plan, line[0], reach))
                self.assertTrue(is_some_plan(left, told[0]) and holds(left, told[0]))
                self.assertIs(shows_mended(grid, plan, line[0], reach, told), True)
                self.assertEqual(lost(left, told[0]), worth)
                self.assertGreaterEqual(fraction(worth), loss_of(left, least_shed(left)[0]))
        self.assertGreater(bridges, 20)
        self.assertGreater(losses, 50)

    def test_a_wide_reach_loses_what_least_shed_does(self):
        random = Random(88)
        for _ in range(30):
            grid = some_case(random)
            plan = some_plan(random, grid)
            wide = behind_each(grid, plan, (999,) * len(grid[2]))
            lefts = [lacking(grid, (line[0],)) for line in grid[1]]
            self.assertEqual(wide, tuple(lost(left, least_shed(left)[0]) for left in lefts))

    def test_no_lines(self):
        grid = (("a",), (), (("p", "a", 9, 1),), (("n", "a", 5, 50),))
        self.assertEqual(behind_each(grid, (ratios(5), ratios(0)), (0,)), ())
        self.assertEqual(behind_each(SINGLE, ((), ()), ()), ())

    def test_wrong_arguments(self):
        plan = (ratios(3, 2), ratios(0))
        for name in WRONG + ("a", "n", ("x",), ["x"]):
            for call in (mended, lambda *args: shows_mended(*args, None)):
                with self.assertRaises(BadName, msg=name):
                    call(PARALLEL, plan, name, None)
        for reach in NOT_REACH:
            for call in (mended, lambda *args: shows_mended(*args, None)):
                with self.assertRaises(BadNumber, msg=reach):
                    call(PARALLEL, plan, "x", reach)
            with self.assertRaises(BadNumber, msg=reach):
                behind_each(PARALLEL, plan, reach)
        for wrong in ((ratios(3, 1), ratios(0)), (ratios(3, 2), ratios(0, 0)), None, ()):
            for call in (mended, lambda *args: shows_mended(*args, None)):
                with self.assertRaises(BadPlan):
                    call(PARALLEL, wrong, "zz", None)
            with self.assertRaises(BadPlan):
                behind_each(PARALLEL, wrong, None)


class ShowsMended(unittest.TestCase):
    def test_other_right_answers(self):
        plan = (ratios(5, 0), ratios(0))
        for made, shed, prices, rent, reach, right in (
            ((3, 0), 2, (0, 50), 50, (0, 0), True), ((3, 0), 2, (0, 50), 50, (9, 0), True),
            ((3, 0), 2, (0, 50), 50, (9, 1), False), ((3, 1), 1, (0, 50), 50, (0, 1), True),
            ((3, 1), 1, (0, 50), 50, (0, 0), False), ((3, 1), 1, (0, 50), 50, (0, 2), False),
            ((3, 2), 0, (0, 0), 0, (0, 2), True), ((3, 2), 0, (0, 50), 50, (0, 2), True),
            ((2, 3), 0, (0, 0), 0, (0, 3), True), ((3, 2), 0, (0, 51), 51, (0, 2), False),
            ((3, 2), 0, (0, 50), 50, (0, 3), False), ((4, 1), 0, (0, 0), 0, (0, 1), False),
        ):
            told = ((ratios(*made), ratios(shed)), (ratios(*prices), ratios(rent)))
            self.assertIs(shows_mended(PARALLEL, plan, "x", reach, told), right, (made, reach))
            wide = (told[0], (told[1][0], ratios(rent, 0)))
            self.assertIs(shows_mended(PARALLEL, plan, "x", reach, wide), False)

    def test_bent_in_one_place(self):
        random = Random(89)
        falses = 0
        lots = [(PARALLEL, (ratios(5, 0), ratios(0)), "x", (0, 1)), (CHAIN, (ratios(4, 2), ratios(0, 0)), "x", (0, 0))]
        while len(lots) < 16:
            grid = some_case(random)
            if grid[1] and len(grid[0]) < 6:
                reach = tuple(random.choice([0, 1, 5]) for _ in grid[2])
                lots.append((grid, some_plan(random, grid), random.choice(grid[1])[0], reach))
        for lot in lots:
            falses += try_bent(
                self, mended(*lot), lambda told: is_mended(*lot, told),
                lambda told: shows_mended(*lot, told),
            )
        self.assertGreater(falses, 2000)

    def test_values_of_other_kinds(self):
        plan = (ratios(5, 0), ratios(0))
        later, paper = mended(PARALLEL, plan, "x", (0, 0))
        for value in WRONG + ((paper, later), (later,), (later, (paper,)), ("plan", later, paper), [later, paper],
                              (later, None), (None, paper), (plan, paper)):
            self.assertIs(shows_mended(PARALLEL, plan, "x", (0, 0), value), False, value)
            with self.assertRaises(BadGrid):
                shows_mended(None, plan, "x", (0, 0), value)


if __name__ == "__main__":
    unittest.main()
