import unittest
from fractions import Fraction
from random import Random

from tests.sums import (
    NO_FALLS, best_in_row, is_best, is_least_told, is_some_plan, loss_of, price_of, some_plan, try_bent,
)
from tests.support import SINGLE, WRONG, fraction, fractions, ratio, ratios, some_full_grid
from wattkeep.dispatch import cheapest, cost_of, holds
from wattkeep.errors import BadGrid, BadPlan
from wattkeep.shedding import best_plan, least_shed, lost, shows_best_plan, shows_least_shed

WEAK = (("a", "b"), (("x", "a", "b", 1, 3),), (("p", "a", 9, 1),), (("n", "b", 5, 50),))
# Two loads of which one is worth more, and plants at two prices that together make too little.
SHORT = (
    ("a",), (), (("p", "a", 4, 7), ("q", "a", 3, 2)), (("n", "a", 5, 50), ("m", "a", 6, 20)),
)
# A ring whose line z is full ahead of what the load needs.
RING = (
    ("a", "b", "c"), (("x", "a", "b", 1, 9), ("y", "b", "c", 1, 2), ("z", "a", "c", 1, 3)),
    (("p", "a", 60, 1),), (("n", "c", 20, 9), ("m", "b", 4, 5)),
)
# One island has no plant, and one no load.
APART = (
    ("a", "s", "b", "t"), (("x", "a", "b", 2, 4),), (("p", "t", 9, 2), ("q", "a", 2, 3)),
    (("n", "s", 4, 9), ("m", "b", 5, 7)),
)


def is_best_told(grid, told):
    plan, paper, rate, least = told
    return isinstance(least, tuple) and is_best(grid, NO_FALLS, best_in_row(told))


class Lost(unittest.TestCase):
    def test_by_hand(self):
        self.assertEqual(lost(WEAK, (ratios(5), ratios(0))), (0, 1))
        self.assertEqual(lost(WEAK, (ratios(0), ratios(5))), (250, 1))
        self.assertEqual(lost(WEAK, ((ratio(14, 3),), (ratio(1, 3),))), (50, 3))
        self.assertEqual(lost(SHORT, (ratios(4, 3), ratios(1, 3))), (110, 1))
        self.assertEqual(lost(SINGLE, ((), ())), (0, 1))

    def test_the_sum(self):
        random = Random(71)
        for _ in range(60):
            grid = some_full_grid(random)
            plan = some_plan(random, grid)
            self.assertEqual(fraction(lost(grid, plan)), loss_of(grid, plan))

    def test_what_is_no_plan(self):
        for plan in WRONG + (
            (ratios(5), ratios(1)), (ratios(10), ratios(-5)), (ratios(5),), (ratios(5), (0,)), (((10, 2),), ratios(0)),
            ([ratio(5)], ratios(0)), (ratios(6), ratios(0)), (ratios(-1), ratios(6)), (((True, 1),), ratios(4)),
        ):
            with self.assertRaises(BadPlan, msg=plan):
                lost(WEAK, plan)
        with self.assertRaises(BadGrid):
            lost((), (ratios(5), ratios(0)))


class LeastShed(unittest.TestCase):
    def test_what_is_lost_by_hand(self):
        for grid, shed, worth in (
            (WEAK, (2,), 100), (SHORT, (0, 4), 80), (APART, (4, 3), 57), (SINGLE, (), 0),
            # No lines, no plants, no loads, nothing at all.
            ((("a", "b"), (), (("p", "a", 9, 1),), (("n", "a", 4, 5), ("m", "b", 3, 6))), (0, 3), 18),
            ((("a", "b"), (("x", "a", "b", 1, 9),), (), (("n", "a", 4, 5),)), (4,), 20),
            ((("a", "b"), (("x", "a", "b", 1, 9),), (("p", "a", 9, 1),), ()), (), 0),
            ((("a", "b"), (), (), ()), (), 0),
            # A line that bears nothing, a plant that can make nothing, a load that needs nothing.
            ((("a", "b"), (("x", "a", "b", 1, 0),), (("p", "a", 9, 1),), (("n", "b", 4, 5),)), (4,), 20),
            ((("a",), (), (("p", "a", 0, 1),), (("n", "a", 4, 5), ("m", "a", 0, 9))), (4, 0), 20),
            # The line is full whichever way it is told.
            ((("a", "b"), (("x", "b", "a", 1, 3),), (("p", "a", 9, 1),), (("n", "b", 5, 50),)), (2,), 100),
        ):
            plan, paper = least_shed(grid)
            self.assertEqual((plan[1], lost(grid, plan)), (ratios(*shed), ratio(worth)), grid)
            self.assertTrue(is_least_told(grid, (plan, paper)), grid)

    def test_a_ring_that_is_too_weak(self):
        told = least_shed(RING)
        self.assertTrue(is_least_told(RING, told))
        # z bears what x and y bear together, 3. So it serves m whole, half a unit of that by way of c: y bears -1/2.
        self.assertEqual(told[0], ((ratio(13, 2),), (ratio(35, 2), ratio(0))))

    def test_worths_of_0(self):
        free = (("a",), (), (("p", "a", 2, 1),), (("n", "a", 4, 0), ("m", "a", 3, 0)))
        told = least_shed(free)
        self.assertEqual(lost(free, told[0]), (0, 1))
        self.assertTrue(is_least_told(free, told))
        # What is worth nothing is shed ahead of what is worth something.
        mixed = (("a",), (), (("p", "a", 2, 1),), (("n", "a", 4, 0), ("m", "a", 2, 1)))
        self.assertEqual(least_shed(mixed)[0], (ratios(2), ratios(4, 0)))

    def test_sums(self):
        random = Random(72)
        weak = 0
        for _ in range(200):
            grid = some_full_grid(random)
            told = least_shed(grid)
            weak += lost(grid, told[0]) != (0, 1)
            self.assertTrue(is_least_told(grid, told), grid)
            self.assertTrue(holds(grid, told[0]))
            self.assertIs(shows_least_shed(grid, told), True)
            self.assertEqual(least_shed(grid), told)
        self.assertTrue(40 < weak < 190, weak)

    def test_nothing_is_lost_exactly_if_there_is_a_plan(self):
        random = Random(73)
        strong = 0
        for _ in range(150):
            grid = some_full_grid(random)
            # With worths above 0, nothing is lost only if nothing is shed.
            grid = grid[:3] + (tuple(load[:3] + (load[3] + 1,) for load in grid[3]),)
            word = cheapest(grid)[0]
            strong += word == "plan"
            self.assertEqual(lost(grid, least_shed(grid)[0]) == (0, 1), word == "plan")
        self.assertTrue(30 < strong < 140, strong)

    def test_no_plan_of_many_loses_less(self):
        random = Random(74)
        for _ in range(60):
            grid = some_full_grid(random)
            least = fraction(lost(grid, least_shed(grid)[0]))
            for _ in range(10):
                plan = some_plan(random, grid)
                if holds(grid, plan):
                    self.assertLessEqual(least, loss_of(grid, plan))


class ShowsLeastShed(unittest.TestCase):
    def test_other_right_answers(self):
        plan = (ratios(3), ratios(2))
        for prices, rents, right in (
            ((0, 50), (50,), True), ((0, 51), (51,), False), ((0, 49), (49,), False), ((-1, 50), (51,), False),
            ((1, 50), (49,), False), ((50, 50), (0,), False), ((0, 50), (49,), False), ((50, 0), (-50,), False),
        ):
            self.assertIs(shows_least_shed(WEAK, (plan, (ratios(*prices), ratios(*rents)))), right, prices)
        # Whoever of two loads of one worth is shed: any parts do.
        even = (("a",), (), (("p", "a", 3, 1),), (("n", "a", 4, 9), ("m", "a", 2, 9)))
        for shed, right in (((3, 0), True), ((1, 2), True), ((Fraction(5, 2), Fraction(1, 2)), True), ((4, 2), False)):
            made = 6 - sum(shed)
            self.assertIs(shows_least_shed(even, ((ratios(made), ratios(*shed)), (ratios(9), ()))), right)

    def test_prices_beside_worths(self):
        grid = (("a",), (), (("p", "a", 3, 1),), (("n", "a", 4, 9), ("m", "a", 2, 5)))
        for made, shed, price, right in (
            (3, (1, 2), 9, True), (3, (1, 2), 10, False), (3, (1, 2), 8, False), (3, (3, 0), 9, False),
            (3, (3, 0), 5, False), (0, (4, 2), 9, False), (0, (4, 2), 10, False), (2, (2, 2), 9, False),
        ):
            told = ((ratios(made), ratios(*shed)), (ratios(price), ()))
            self.assertIs(shows_least_shed(grid, told), right, (made, shed, price))
        # A price of 0 lets a plant make any part.
        strong = (("a",), (), (("p", "a", 9, 1), ("q", "a", 9, 5)), (("n", "a", 4, 9),))
        for made, right in (((4, 0), True), ((0, 4), True), ((1, 3), True)):
            self.assertIs(shows_least_shed(strong, ((ratios(*made), ratios(0)), (ratios(0), ()))), right)
            self.assertIs(shows_least_shed(strong, ((ratios(*made), ratios(0)), (ratios(1), ()))), False)
            self.assertIs(shows_least_shed(strong, ((ratios(*made), ratios(0)), (ratios(-1), ()))), False)

    def test_a_plan_that_does_not_hold(self):
        for made, right in ((4, False), (5, False), (3, True)):
            told = ((ratios(made), ratios(5 - made)), (ratios(0, 50), ratios(50)))
            self.assertIs(shows_least_shed(WEAK, told), right)

    def test_bent_in_one_place(self):
        random = Random(75)
        falses = 0
        for grid in [WEAK, SHORT, RING, APART] + [some_full_grid(random) for _ in range(25)]:
            falses += try_bent(
                self, least_shed(grid), lambda told: is_least_told(grid, told),
                lambda told: shows_least_shed(grid, told),
            )
        self.assertGreater(falses, 2000)

    def test_values_of_other_kinds(self):
        plan, paper = least_shed(WEAK)
        for value in WRONG + ((paper, plan), (plan,), (paper,), ("plan", plan, paper), (plan, (paper,)), (plan, None),
                              (None, paper), [plan, paper], (list(plan), paper), best_plan(WEAK)):
            self.assertIs(shows_least_shed(WEAK, value), False, value)
            with self.assertRaises(BadGrid):
                shows_least_shed(None, value)


class BestPlan(unittest.TestCase):
    def test_by_hand(self):
        for grid, plan in (
            (WEAK, (ratios(3), ratios(2))), (SHORT, (ratios(4, 3), ratios(0, 4))), (SINGLE, ((), ())),
            (APART, (ratios(0, 2), ratios(4, 3))),
            # Of two plants the cheap one makes all.
            ((("a",), (), (("p", "a", 9, 3), ("q", "a", 9, 2)), (("n", "a", 8, 5),)), (ratios(0, 8), ratios(0))),
            # A load that is worth nothing is shed rather than paid for, and one that is worth little is not.
            ((("a",), (), (("p", "a", 9, 3),), (("n", "a", 4, 0), ("m", "a", 2, 1))), (ratios(2), ratios(4, 0))),
        ):
            told = best_plan(grid)
            self.assertEqual(told[0], plan, grid)
            self.assertTrue(is_best_told(grid, told), grid)

    def test_worths_of_0_cost_nothing(self):
        grid = (("a",), (), (("p", "a", 9, 0), ("q", "a", 9, 7)), (("n", "a", 4, 0), ("m", "a", 5, 0)))
        told = best_plan(grid)
        self.assertEqual(cost_of(grid, told[0]), (0, 1))
        self.assertTrue(is_best_told(grid, told))

    def test_sums(self):
        random = Random(76)
        rates = 0
        for _ in range(200):
            grid = some_full_grid(random)
            told = best_plan(grid)
            rates += fraction(told[2]) > 0
            self.assertTrue(is_best_told(grid, told), grid)
            self.assertTrue(is_some_plan(grid, told[0]) and holds(grid, told[0]))
            self.assertGreaterEqual(fraction(told[2]), 0)
            self.assertEqual(lost(grid, told[0]), lost(grid, told[3][0]))
            self.assertIs(shows_least_shed(grid, told[3]), True)
            self.assertIs(shows_best_plan(grid, told), True)
            self.assertEqual(best_plan(grid), told)
        self.assertGreater(rates, 20)

    def test_a_strong_grid_loses_nothing_and_costs_what_the_cheapest_does(self):
        random = Random(77)
        strong = 0
        for _ in range(150):
            grid = some_full_grid(random)
            grid = grid[:3] + (tuple(load[:3] + (load[3] + 1,) for load in grid[3]),)
            told = cheapest(grid)
            if told[0] == "plan":
                strong += 1
                best = best_plan(grid)
                self.assertEqual(lost(grid, best[0]), (0, 1))
                self.assertFalse(any(fractions(best[0][1])))
                self.assertEqual(cost_of(grid, best[0]), cost_of(grid, told[1]))
        self.assertGreater(strong, 30)

    def test_no_plan_of_many_is_better(self):
        random = Random(78)
        for _ in range(60):
            grid = some_full_grid(random)
            best = best_plan(grid)[0]
            known = (loss_of(grid, best), price_of(grid, best))
            for _ in range(10):
                plan = some_plan(random, grid)
                if holds(grid, plan):
                    self.assertLessEqual(known, (loss_of(grid, plan), price_of(grid, plan)))


class ShowsBestPlan(unittest.TestCase):
    GRID = (("a",), (), (("p", "a", 9, 3), ("q", "a", 9, 2)), (("n", "a", 4, 5),))

    def test_other_right_answers(self):
        plan = (ratios(0, 4), ratios(0))
        least = ((ratios(1, 3), ratios(0)), (ratios(0), ()))
        for made, price, rate, right in (
            ((0, 4), 2, ratio(2, 5), True), ((0, 4), 2, ratio(1), True), ((0, 4), 2, ratio(99), True),
            ((0, 4), 2, ratio(1, 5), False), ((0, 4), 3, ratio(1), False), ((0, 4), 1, ratio(1), False),
            ((1, 3), 2, ratio(1), False), ((1, 3), 3, ratio(1), False), ((0, 4), 2, ratio(-1), False),
            ((0, 4), 2, (4, 10), False), ((0, 4), 2, 1, False), ((0, 4), 2, None, False), ((0, 4), 2, (True, 1), False),
        ):
            told = ((ratios(*made), ratios(0)), (ratios(price), ()), rate, least)
            self.assertIs(shows_best_plan(self.GRID, told), right, told)
        self.assertIs(shows_best_plan(self.GRID, (plan, (ratios(2), ()), ratio(1), (plan, (ratios(0), ())))), True)

    def test_what_loses_more_than_need_be(self):
        # At rate 0 nothing at all is the best, and its paper shows it; but it loses more.
        none = (ratios(0, 0), ratios(4))
        least = best_plan(self.GRID)[3]
        for rate in (ratio(0), ratio(1, 5), ratio(2, 5)):
            for price in (0, 1, 2):
                self.assertIs(shows_best_plan(self.GRID, (none, (ratios(price), ()), rate, least)), False)
                self.assertIs(shows_best_plan(self.GRID, (none, (ratios(price), ()), rate, (none, (ratios(0), ())))), False)

    def test_bent_in_one_place(self):
        random = Random(79)
        falses = 0
        for grid in [WEAK, SHORT, RING, APART, self.GRID] + [some_full_grid(random) for _ in range(12)]:
            falses += try_bent(
                self, best_plan(grid), lambda told: len(told) == 4 and is_best_told(grid, told),
                lambda told: shows_best_plan(grid, told),
            )
        self.assertGreater(falses, 2000)

    def test_values_of_other_kinds(self):
        told = best_plan(WEAK)
        plan, paper, rate, least = told
        for value in WRONG + (told[:3], told[1:], (plan, (paper,), rate, least), (plan, paper, rate, plan),
                              (plan, paper, rate, (plan,)), (plan, paper, rate, ()), (plan, paper, least, rate),
                              (plan, paper, rate, (least[0], (least[1],))), list(told), least, (told,),
                              (None, paper, rate, least), (plan, None, rate, least), (plan, paper, rate, None)):
            self.assertIs(shows_best_plan(WEAK, value), False, value)
            with self.assertRaises(BadGrid):
                shows_best_plan({}, value)


if __name__ == "__main__":
    unittest.main()
