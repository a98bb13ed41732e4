import unittest
from fractions import Fraction
from random import Random

from tests.sums import injections, is_cheapest_told, some_plan, try_bent
from tests.support import SINGLE, WRONG, fraction, fractions, ratio, ratios, some_full_grid
from wattkeep.dispatch import cheapest, cost_of, flows_of, holds, is_plan, shows_cheapest
from wattkeep.errors import BadGrid, BadPlan
from wattkeep.flows import flows

PAIR = (("a", "b"), (("x", "a", "b", 1, 3),), (("p", "a", 9, 1), ("q", "b", 9, 4)), (("n", "b", 5, 50),))
RING = (
    ("a", "b", "c"), (("x", "a", "b", 1, 90), ("y", "b", "c", 1, 90), ("z", "a", "c", 1, 6)),
    (("p", "a", 60, 1), ("q", "c", 60, 9)), (("n", "c", 20, 99),),
)
TWO = (
    ("a", "s", "b", "t"), (("x", "a", "b", 2, 4), ("y", "t", "s", 3, 2)),
    (("p", "a", 9, 2), ("q", "t", 9, 1), ("r", "s", 9, 7)), (("n", "b", 4, 9), ("m", "s", 6, 9)),
)


class Plans(unittest.TestCase):
    BAD = (
        (), (ratios(3, 2),), (ratios(3, 2), ratios(0), ()), [ratios(3, 2), ratios(0)], (list(ratios(3, 2)), ratios(0)),
        (ratios(3, 2), list(ratios(0))), (ratios(3), ratios(0)), (ratios(3, 2, 0), ratios(0)), (ratios(3, 2), ()),
        (ratios(3, 2), ratios(0, 0)), (ratios(3, 1), ratios(0)), (ratios(3, 3), ratios(0)), (ratios(3, 2), ratios(1)),
        (ratios(10, -5), ratios(0)), (ratios(-1, 6), ratios(0)), (ratios(0, 0), ratios(6)), (ratios(6, 0), ratios(-1)),
        (ratios(10, 0), ratios(5)), (((3, 1), (4, 2)), ratios(0)), ((3, 2), (0,)), (((3, 1), (2, True)), ratios(0)),
        (((3, 1), (2, 1)), ((False, 1),)), (((3, 1), [2, 1]), ratios(0)), (((3, 1), (-2, -1)), ratios(0)), "plan",
        ("plan", (ratios(3, 2), ratios(0))), {0: ratios(3, 2), 1: ratios(0)},
    )

    def test_plans(self):
        for plan in (
            (ratios(3, 2), ratios(0)), (ratios(5, 0), ratios(0)), (ratios(0, 0), ratios(5)), (ratios(0, 5), ratios(0)),
            (ratios(Fraction(1, 2), Fraction(1, 3)), ratios(Fraction(25, 6))),
        ):
            self.assertIs(is_plan(PAIR, plan), True, plan)
        self.assertIs(is_plan(SINGLE, ((), ())), True)
        self.assertIs(is_plan(TWO, (ratios(4, 2, 4), ratios(0, 0))), True)
        self.assertIs(is_plan(TWO, (ratios(9, 9, 0), ratios(0, 0))), False)
        # 10 is made and 10 is needed, but not island by island.
        self.assertIs(is_plan(TWO, (ratios(3, 7, 0), ratios(0, 0))), False)

    def test_the_ends_of_the_amounts(self):
        grid = (("a",), (), (("p", "a", 5, 1), ("q", "a", 5, 1)), (("n", "a", 5, 1), ("m", "a", 7, 1)))
        for made, shed, right in (
            ((5, 5), (0, 2), True), ((5, 5), (2, 0), True), ((0, 0), (5, 7), True), ((6, 0), (5, 1), False),
            ((0, 1), (6, 5), False), ((-1, 1), (5, 7), False), ((3, 3), (-1, 7), False), ((5, 2), (5, 0), True),
        ):
            self.assertIs(is_plan(grid, (ratios(*made), ratios(*shed))), right)

    def test_values_that_are_none(self):
        for plan in self.BAD + WRONG:
            self.assertIs(is_plan(PAIR, plan), False, plan)
            for call in (flows_of, cost_of, holds):
                with self.assertRaises(BadPlan, msg=plan):
                    call(PAIR, plan)

    def test_flows_and_costs(self):
        self.assertEqual(flows_of(PAIR, (ratios(3, 2), ratios(0))), ratios(3))
        self.assertEqual(cost_of(PAIR, (ratios(3, 2), ratios(0))), (11, 1))
        self.assertEqual(flows_of(RING, (ratios(20, 0), ratios(0))), (ratio(20, 3), ratio(20, 3), ratio(40, 3)))
        self.assertEqual(cost_of(SINGLE, ((), ())), (0, 1))
        self.assertEqual(flows_of(SINGLE, ((), ())), ())
        random = Random(61)
        for _ in range(80):
            grid = some_full_grid(random)
            plan = some_plan(random, grid)
            self.assertIs(is_plan(grid, plan), True)
            self.assertEqual(flows_of(grid, plan), flows(grid, injections(grid, plan)))
            cost = sum(made * plant[3] for made, plant in zip(fractions(plan[0]), grid[2]))
            self.assertEqual(fraction(cost_of(grid, plan)), cost)
            within = [abs(flow) <= line[4] for flow, line in zip(fractions(flows_of(grid, plan)), grid[1])]
            self.assertIs(holds(grid, plan), all(within))

    def test_just_the_limit_and_just_beyond(self):
        for one, other in (("a", "b"), ("b", "a")):
            grid = (("a", "b"), (("x", one, other, 1, 3),), (("p", "a", 9, 1), ("q", "b", 9, 4)), (("n", "b", 5, 50),))
            for made, right in (
                (3, True), (Fraction(31, 10), False), (Fraction(3001, 1000), False), (Fraction(29, 10), True),
            ):
                self.assertIs(holds(grid, (ratios(made, 5 - made), ratios(0))), right)
        shut = (("a", "b"), (("x", "a", "b", 1, 0),), (("p", "a", 9, 1),), (("n", "b", 5, 50),))
        self.assertIs(holds(shut, (ratios(0), ratios(5))), True)
        self.assertIs(holds(shut, ((ratio(1, 1000),), (ratio(4999, 1000),))), False)


class Cheapest(unittest.TestCase):
    def test_by_hand(self):
        self.assertEqual(cheapest(PAIR)[1], (ratios(3, 2), ratios(0)))
        told = cheapest(RING)
        self.assertEqual(told[:2], ("plan", (ratios(9, 11), ratios(0))))
        self.assertTrue(is_cheapest_told(RING, told))
        self.assertEqual(cheapest(TWO)[1], (ratios(4, 2, 4), ratios(0, 0)))
        self.assertEqual(cheapest(SINGLE), ("plan", ((), ()), (cheapest(SINGLE)[2][0], ())))
        # Equal prices, and a plant that makes nothing for nothing.
        grid = (("a",), (), (("p", "a", 0, 0), ("q", "a", 4, 5), ("r", "a", 4, 5)), (("n", "a", 8, 9),))
        self.assertEqual(cheapest(grid)[1], (ratios(0, 4, 4), ratios(0)))

    def test_none_by_hand(self):
        for grid in (
            (("a",), (), (), (("n", "a", 1, 9),)),
            (("a", "b"), (), (("p", "a", 9, 1),), (("n", "b", 1, 9),)),
            (("a", "b"), (("x", "a", "b", 1, 3),), (("p", "a", 9, 1),), (("n", "b", 4, 9),)),
            (("a", "b"), (("x", "b", "a", 1, 3),), (("p", "a", 9, 1),), (("n", "b", 4, 9),)),
            (("a", "b"), (("x", "a", "b", 1, 9),), (("p", "a", 3, 1),), (("n", "b", 4, 9),)),
            # The twins bear 3 and 4, but not at once.
            (("a", "b"), (("x", "a", "b", 1, 3), ("y", "a", "b", 1, 4)), (("p", "a", 9, 1),), (("n", "b", 7, 9),)),
        ):
            told = cheapest(grid)
            self.assertEqual((told[0], len(told)), ("none", 2))
            self.assertTrue(is_cheapest_told(grid, told))

    def test_a_full_line_need_not_part_prices(self):
        grid = (("a", "b"), (("x", "a", "b", 1, 5),), (("p", "a", 9, 1),), (("n", "b", 5, 9),))
        told = cheapest(grid)
        self.assertEqual(told[1], (ratios(5), ratios(0)))
        self.assertTrue(is_cheapest_told(grid, told))

    def test_no_lines_plants_or_loads(self):
        for grid in (
            (("a", "b"), (), (), ()), (("a", "b"), (), (("p", "a", 9, 3),), ()),
            (("a", "b"), (("x", "a", "b", 2, 0),), (), ()), (("a",), (), (), (("n", "a", 0, 9),)),
            (("a", "b"), (("x", "a", "b", 2, 0),), (("p", "a", 9, 0),), (("n", "b", 0, 9),)),
            (("a", "b"), (), (("p", "a", 9, 3), ("q", "b", 2, 3)), (("n", "a", 9, 9), ("m", "b", 2, 9))),
        ):
            told = cheapest(grid)
            self.assertEqual(told[0], "plan")
            self.assertTrue(is_cheapest_told(grid, told))

    def test_sums(self):
        random = Random(62)
        words = []
        for _ in range(250):
            grid = some_full_grid(random)
            told = cheapest(grid)
            words.append(told[0])
            self.assertTrue(is_cheapest_told(grid, told), grid)
            self.assertIs(shows_cheapest(grid, told), True)
            self.assertEqual(cheapest(grid), told)
        self.assertGreater(words.count("plan"), 30)
        self.assertGreater(words.count("none"), 30)

    def test_no_plan_of_many_is_cheaper(self):
        random = Random(63)
        for _ in range(60):
            grid = some_full_grid(random)
            told = cheapest(grid)
            for _ in range(10):
                plan = some_plan(random, grid)
                if holds(grid, plan) and not any(fractions(plan[1])):
                    self.assertEqual(told[0], "plan")
                    self.assertLessEqual(fraction(cost_of(grid, told[1])), fraction(cost_of(grid, plan)))


class ShowsCheapest(unittest.TestCase):
    def test_other_right_answers(self):
        plan = (ratios(3, 2), ratios(0))
        self.assertIs(shows_cheapest(PAIR, ("plan", plan, (ratios(1, 4), ratios(3)))), True)
        for paper in ((ratios(1, 4), ratios(2)), (ratios(0, 4), ratios(4)), (ratios(1, 5), ratios(4)),
                      (ratios(4, 1), ratios(-3)), (ratios(1, 1), ratios(0))):
            self.assertIs(shows_cheapest(PAIR, ("plan", plan, paper)), False)
        # With equal prices any parts do.
        grid = (("a",), (), (("p", "a", 9, 5), ("q", "a", 9, 5)), (("n", "a", 8, 9),))
        for made in ((8, 0), (0, 8), (Fraction(1, 3), Fraction(23, 3))):
            self.assertIs(shows_cheapest(grid, ("plan", (ratios(*made), ratios(0)), (ratios(5), ()))), True)
            self.assertIs(shows_cheapest(grid, ("plan", (ratios(*made), ratios(0)), (ratios(6), ()))), False)
            self.assertIs(shows_cheapest(grid, ("plan", (ratios(*made), ratios(0)), (ratios(4), ()))), False)
        none = (("a",), (), (("p", "a", 3, 1),), (("n", "a", 4, 9),))
        for price, right in ((1, True), (Fraction(1, 9), True), (99, True), (0, False), (-1, False)):
            self.assertIs(shows_cheapest(none, ("none", (ratios(price), ()))), right)

    def test_just_as_much_on_either_side_shows_nothing(self):
        for amount in (1, 4):
            even = (("a",), (), (("p", "a", amount, 1),), (("n", "a", amount, 9),))
            self.assertIs(shows_cheapest(even, ("none", (ratios(1), ()))), False)
            # A plant where the price is below 0 takes nothing away.
            more = (("a", "b"), (), (("p", "a", amount, 1), ("q", "b", 5, 1)), (("n", "a", amount, 9),))
            self.assertIs(shows_cheapest(more, ("none", (ratios(1, -1), ()))), False)
        for one, other, rent in (("a", "b", 1), ("b", "a", -1)):
            for need, right in ((3, False), (4, True)):
                full = (("a", "b"), (("x", one, other, 2, 3),), (("p", "a", 9, 1),), (("n", "b", need, 9),))
                self.assertIs(shows_cheapest(full, ("none", (ratios(0, 1), ratios(rent)))), right)
                self.assertIs(shows_cheapest(full, ("none", (ratios(0, 1), ratios(-rent)))), False)

    def test_rents_on_lines_that_are_not_full(self):
        for one, other, rent in (("a", "b", 1), ("b", "a", -1)):
            grid = (PAIR[0], (("x", one, other, 1, 3),), (("p", "a", 9, 1), ("q", "b", 9, 2)), PAIR[3])
            paper = (ratios(1, 2), ratios(rent))
            for made, right in (((3, 2), True), ((2, 3), False), ((0, 5), False), ((4, 1), False)):
                self.assertIs(shows_cheapest(grid, ("plan", (ratios(*made), ratios(0)), paper)), right)

    def test_flows_beyond_a_limit(self):
        for one, other in (("a", "b"), ("b", "a")):
            plants = (("p", "a", 9, 2), ("q", "b", 9, 2))
            grid = (("a", "b"), (("x", one, other, 1, 3),), plants, (("n", "b", 5, 50),))
            for made, right in (((3, 2), True), ((0, 5), True), ((4, 1), False), ((5, 0), False)):
                told = ("plan", (ratios(*made), ratios(0)), (ratios(2, 2), ratios(0)))
                self.assertIs(shows_cheapest(grid, told), right)

    def test_what_plants_make_at_the_prices(self):
        grid = (("a",), (), (("p", "a", 4, 1), ("q", "a", 9, 3), ("r", "a", 9, 5)), (("n", "a", 6, 9),))
        for made, price, right in (
            ((4, 2, 0), 3, True), ((4, 2, 0), 2, False), ((4, 2, 0), 4, False), ((4, 2, 0), Fraction(5, 2), False),
            ((4, 1, 1), 3, False), ((3, 3, 0), 3, False), ((4, 1, 1), 4, False), ((0, 6, 0), 3, False),
        ):
            told = ("plan", (ratios(*made), ratios(0)), (ratios(price), ()))
            self.assertIs(shows_cheapest(grid, told), right)

    def test_rents_at_a_line_that_bears_nothing(self):
        grid = (("a", "b"), (("x", "a", "b", 1, 0),), (("p", "a", 9, 1), ("q", "b", 9, 4)), (("n", "b", 5, 50),))
        for prices, rents, right in (((1, 4), (3,), True), ((0, 4), (4,), True), ((2, 4), (2,), False)):
            told = ("plan", (ratios(0, 5), ratios(0)), (ratios(*prices), ratios(*rents)))
            self.assertIs(shows_cheapest(grid, told), right)

    def test_what_sheds_or_does_not_hold(self):
        paper = (ratios(1, 4), ratios(3))
        for plan in ((ratios(3, 1), ratios(1)), (ratios(4, 1), ratios(0)), (ratios(5, 0), ratios(0))):
            self.assertIs(shows_cheapest(PAIR, ("plan", plan, paper)), False)
        grid = (("a",), (), (("p", "a", 9, 5),), (("n", "a", 8, 9),))
        self.assertIs(shows_cheapest(grid, ("plan", (ratios(0), ratios(8)), (ratios(0), ()))), False)

    def test_bent_in_one_place(self):
        random = Random(64)
        falses = 0
        for grid in [PAIR, RING, TWO] + [some_full_grid(random) for _ in range(30)]:
            falses += try_bent(
                self, cheapest(grid), lambda told: is_cheapest_told(grid, told), lambda told: shows_cheapest(grid, told),
            )
        self.assertGreater(falses, 2000)

    def test_values_of_other_kinds(self):
        told = cheapest(PAIR)
        for value in WRONG + (told[1:], ("none",) + told[1:], ("plan", told[2], told[1]), ("plan", told[1]), (told,),
                              ("plan", told[2]), ("none", told[2]), ("plan", None, None), ("none", {}), ("plan", [], {})):
            self.assertIs(shows_cheapest(PAIR, value), False, value)
            with self.assertRaises(BadGrid):
                shows_cheapest(None, value)


if __name__ == "__main__":
    unittest.main()
