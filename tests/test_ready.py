import unittest
from fractions import Fraction
from random import Random

from tests.sums import (
    NO_FALLS, bridge_names, is_best, is_safe_plan, loads_follow, loss_of, mosts_of, plants_follow, price_of,
    ring_names, some_plan, stands, try_bent,
)
from tests.support import (
    CHAIN, LOOP, NOT_OVER, ONE, PARALLEL, SINGLE, WRONG, fraction, ratio, ratios, some_full_grid,
    some_joined_grid,
)
from wattkeep.cascades import cascade, left_behind
from wattkeep.dispatch import cost_of, holds
from wattkeep.errors import BadGrid, BadNumber, BadPlan
from wattkeep.falls import NO_FALLS as NOTHING_FALLS
from wattkeep.planning import cheapest_losing, nets_of
from wattkeep.ready import is_ready, price_of_ready, ready_plan, shows_ready_plan
from wattkeep.safe import is_safe, safe_plan
from wattkeep.shedding import best_plan, least_shed, lost, shows_best_plan

# Behind the fall of x or y just 3 come to b, where 5 are needed and nothing is made.
WEAK = (PARALLEL[0], PARALLEL[1], PARALLEL[2][:1], PARALLEL[3])
BRIDGED = (
    ("a", "b", "c"), (("x", "a", "b", 1, 4), ("u", "b", "c", 1, 2), ("v", "c", "b", 2, 3)),
    (("p", "a", 9, 2), ("q", "c", 1, 7)), (("n", "c", 4, 30), ("m", "b", 2, 10)),
)


def falls_of(grid, over):
    return (ring_names(grid), fraction(over))


def is_cheap(grid, plan, papers, rate):
    """Tell whether a plan costs the least at a rate for what it loses, as papers show."""
    follow = plants_follow(grid, plan, papers, mosts_of(grid), 1) and loads_follow(grid, plan, papers, fraction(rate))
    return stands(grid, NO_FALLS, plan, papers) and follow


def some_case(random):
    return random.choice([some_full_grid, some_joined_grid])(random)


class IsReady(unittest.TestCase):
    def test_by_hand(self):
        for made, over, right in (
            (3, ONE, True), (Fraction(31, 10), ONE, False), (4, (4, 3), True), (4, (5, 4), False), (5, (9, 1), True),
        ):
            self.assertIs(is_ready(PARALLEL, (ratios(made, 5 - made), ratios(0)), over), right)
        # Behind the fall of a bridge anything may be.
        grid = (CHAIN[0], CHAIN[1], (("p", "a", 9, 1),), (("n", "c", 5, 1),))
        self.assertIs(is_ready(grid, (ratios(5), ratios(0)), ONE), True)
        self.assertIs(is_ready(SINGLE, ((), ()), ONE), True)

    def test_against_is_safe(self):
        random = Random(91)
        found = []
        for _ in range(300):
            grid = some_case(random)
            plan = random.choice([some_plan(random, grid), least_shed(grid)[0]])
            over = random.choice([ONE, (2, 1), (5, 4), (9, 1)])
            found.append(is_ready(grid, plan, over))
            self.assertIs(found[-1], is_safe(grid, plan, ring_names(grid), over))
            self.assertIs(found[-1], is_safe_plan(grid, falls_of(grid, over), plan))
        self.assertGreater(found.count(True), 30)
        self.assertGreater(found.count(False), 30)

    def test_wrong_arguments(self):
        for plan in WRONG + ((ratios(3, 1), ratios(0)),):
            with self.assertRaises(BadPlan):
                is_ready(PARALLEL, plan, None)
        for over in NOT_OVER:
            with self.assertRaises(BadNumber, msg=over):
                is_ready(PARALLEL, (ratios(3, 2), ratios(0)), over)
            for call in (ready_plan, price_of_ready, lambda *args: shows_ready_plan(*args, None)):
                with self.assertRaises(BadNumber, msg=over):
                    call(PARALLEL, over)
                with self.assertRaises(BadGrid):
                    call((), over)


class ReadyPlan(unittest.TestCase):
    def test_by_hand(self):
        for grid, over, plan in (
            (PARALLEL, ONE, (ratios(3, 2), ratios(0))), (PARALLEL, (4, 3), (ratios(4, 1), ratios(0))),
            (PARALLEL, (9, 1), (ratios(5, 0), ratios(0))), (WEAK, ONE, (ratios(3), ratios(2))),
            (WEAK, (3, 2), ((ratio(9, 2),), (ratio(1, 2),))), (WEAK, (2, 1), (ratios(5), ratios(0))),
            (SINGLE, ONE, ((), ())),
            # n is worth more, and of it u and v bear 2 behind either's fall.
            (BRIDGED, ONE, (ratios(4, 1), ratios(1, 0))),
        ):
            told = ready_plan(grid, over)
            self.assertEqual(told[0], plan, (grid, over))
            self.assertTrue(is_best(grid, falls_of(grid, over), told))
            self.assertEqual(len(told[1]), len(ring_names(grid)) + 1)

    def test_the_lines_that_may_fall_are_no_bridges(self):
        self.assertEqual((bridge_names(BRIDGED), ring_names(BRIDGED)), (("x",), ("u", "v")))
        self.assertEqual(len(ready_plan(BRIDGED, ONE)[1]), 3)
        self.assertEqual(len(ready_plan(CHAIN, ONE)[1]), 1)

    def test_sums(self):
        random = Random(92)
        sheds = rings = 0
        for _ in range(100):
            grid = some_case(random)
            over = random.choice([ONE, ONE, (2, 1), (5, 4), (9, 1)])
            told = ready_plan(grid, over)
            sheds += lost(grid, told[0]) != (0, 1)
            rings += bool(ring_names(grid))
            self.assertTrue(is_best(grid, falls_of(grid, over), told), (grid, over))
            self.assertIs(is_ready(grid, told[0], over), True)
            self.assertIs(shows_ready_plan(grid, over, told), True)
            self.assertEqual(lost(grid, told[0]), lost(grid, told[3][0]))
        self.assertTrue(20 < sheds < 95 and rings > 40, (sheds, rings))
        for grid in (LOOP, PARALLEL):
            self.assertEqual(ready_plan(grid, ONE), ready_plan(grid, ONE))

    def test_without_a_ring_it_is_the_best_plan(self):
        random = Random(93)
        tried = 0
        while tried < 25:
            grid = some_full_grid(random)
            if not ring_names(grid):
                tried += 1
                plan, papers, rate, least = ready_plan(grid, ONE)
                told = (plan, papers[0], rate, (least[0], least[1][0]))
                self.assertIs(shows_best_plan(grid, told), True)
                self.assertEqual(cost_of(grid, plan), cost_of(grid, best_plan(grid)[0]))

    def test_nothing_falls_behind_any_one_fall(self):
        random = Random(94)
        for _ in range(40):
            grid = some_case(random)
            plan = ready_plan(grid, ONE)[0]
            self.assertEqual(cascade(grid, plan), ())
            for name in ring_names(grid):
                self.assertEqual(left_behind(grid, (name,), plan)[1], plan)
                self.assertEqual(cascade(*left_behind(grid, (name,), plan)), ())

    def test_no_ready_plan_of_many_is_better(self):
        random = Random(95)
        tried = 0
        for _ in range(80):
            grid = some_joined_grid(random, 4)
            best = ready_plan(grid, ONE)[0]
            known = (loss_of(grid, best), price_of(grid, best))
            for _ in range(12):
                plan = some_plan(random, grid)
                if is_safe_plan(grid, falls_of(grid, ONE), plan):
                    tried += 1
                    self.assertLessEqual(known, (loss_of(grid, plan), price_of(grid, plan)))
        self.assertGreater(tried, 100)

    def test_where_nothing_need_be_shed_it_costs_what_the_safe_plan_does(self):
        random = Random(96)
        found = 0
        for _ in range(100):
            grid = some_case(random)
            grid = grid[:3] + (tuple(load[:3] + (load[3] + 1,) for load in grid[3]),)
            told = safe_plan(grid, ring_names(grid), ONE)
            plan = ready_plan(grid, ONE)[0]
            self.assertEqual(told[0] == "plan", lost(grid, plan) == (0, 1))
            if told[0] == "plan":
                found += 1
                self.assertEqual(cost_of(grid, told[1]), cost_of(grid, plan))
        self.assertGreater(found, 15)


class ShowsReadyPlan(unittest.TestCase):
    def test_other_right_answers(self):
        least = ((ratios(1, 4), ratios(0)), ((ratios(0, 0), ratios(0, 0)),) * 3)
        zero = (ratios(0, 0), ratios(0, 0))
        on_x, on_y = (ratios(0, 3), ratios(3, 0)), (ratios(0, 3), ratios(0, 3))
        for papers, rate, right in (
            ((zero, (ratios(1, 4), ratios(0, 3)), zero), ratio(1), True),
            ((zero, zero, (ratios(1, 4), ratios(3, 0))), ratio(1), True),
            (((ratios(1, 1), ratios(0, 0)), on_y, zero), ratio(4, 50), True),
            (((ratios(1, 1), ratios(0, 0)), on_y, zero), ratio(3, 50), False),
            (((ratios(1, 1), ratios(0, 0)), on_y, zero), ratio(-1), False),
            (((ratios(1, 1), ratios(0, 0)), zero, on_y), ratio(1), False),
            (((ratios(1, 1), ratios(0, 0)), on_x, zero), ratio(1), False),
            (((ratios(1, 1), ratios(0, 0)), on_y, on_x), ratio(1), False),
            (((ratios(1, 1), ratios(3, 3)), zero, zero), ratio(1), False),
            (((ratios(1, 1), ratios(0, 0)), (ratios(0, 1), ratios(0, 1)), (ratios(0, 2), ratios(2, 0))), ratio(1), True),
        ):
            told = ((ratios(3, 2), ratios(0)), papers, rate, least)
            self.assertIs(shows_ready_plan(PARALLEL, ONE, told), right, (papers, rate))
            self.assertIs(shows_ready_plan(PARALLEL, (2, 1), told), False)
            self.assertIs(shows_ready_plan(PARALLEL, ONE, told[:3] + ((least[0], least[1][:1]),)), False)
            wide = told[:3] + (((ratios(0, 5), ratios(0)), least[1]),)
            self.assertIs(shows_ready_plan(PARALLEL, ONE, wide), right)
            unready = told[:3] + (((ratios(5, 0), ratios(0)), least[1]),)
            self.assertIs(shows_ready_plan(PARALLEL, ONE, unready), False)

    def test_bent_in_one_place(self):
        random = Random(97)
        falses = 0
        lots = [(PARALLEL, ONE), (WEAK, (3, 2)), (BRIDGED, ONE)] + [(some_joined_grid(random, 3), ONE) for _ in range(5)]
        for grid, over in lots:
            falls = falls_of(grid, over)
            falses += try_bent(
                self, ready_plan(grid, over), lambda told: len(told) == 4 and is_best(grid, falls, told),
                lambda told: shows_ready_plan(grid, over, told),
            )
        self.assertGreater(falses, 2000)

    def test_values_of_other_kinds(self):
        told = ready_plan(PARALLEL, ONE)
        plan, papers, rate, least = told
        for value in WRONG + (told[:3], told[1:], (plan, papers[0], rate, least), (plan, papers, rate, plan), list(told),
                              (plan, papers, rate, (least[0], least[1][0])), (plan, papers[:1], rate, least), least,
                              (plan, papers, rate, ()), (plan, papers, rate, None), (None, papers, rate, least),
                              (plan, None, rate, least), (plan, papers, None, least), (plan, papers[::-1], rate, least),
                              best_plan(PARALLEL)):
            self.assertIs(shows_ready_plan(PARALLEL, ONE, value), False, value)
            with self.assertRaises(BadGrid):
                shows_ready_plan("grid", ONE, value)


class PriceOfReady(unittest.TestCase):
    def test_by_hand(self):
        for grid, over, worth, cost in (
            (PARALLEL, ONE, 0, 6), (PARALLEL, (4, 3), 0, 3), (PARALLEL, (9, 1), 0, 0),
            # 2 more are lost; and what is made, 3, is the least that loses as little.
            (WEAK, ONE, 100, 0), (WEAK, (3, 2), 25, 0), (WEAK, (2, 1), 0, 0), (SINGLE, ONE, 0, 0), (CHAIN, ONE, 0, 0),
        ):
            self.assertEqual(price_of_ready(grid, over), (ratio(worth), ratio(cost)), (grid, over))

    def test_what_it_costs_is_measured_by_plans_that_lose_as_much(self):
        # When x or y may fall, 3 come to b at most, and q, which is dear, makes 1 more.
        grid = PARALLEL[:2] + ((("p", "a", 9, 1), ("q", "b", 1, 8)), (("n", "b", 5, 50),))
        self.assertEqual(ready_plan(grid, ONE)[0], (ratios(3, 1), ratios(1)))
        # Without falls nothing is lost. A plan that loses 50 as well costs 4, all from p; this one costs 11.
        self.assertEqual(price_of_ready(grid, ONE), ((50, 1), (7, 1)))

    def test_against_the_plans(self):
        random = Random(98)
        worths = costs = 0
        for _ in range(80):
            grid = some_case(random)
            over = random.choice([ONE, (2, 1), (5, 4)])
            plan = ready_plan(grid, over)[0]
            worth, cost = price_of_ready(grid, over)
            worths, costs = worths + worth[0], costs + cost[0]
            self.assertEqual(fraction(worth), loss_of(grid, plan) - loss_of(grid, least_shed(grid)[0]))
            self.assertGreaterEqual(fraction(worth), 0)
            self.assertGreaterEqual(fraction(cost), 0)
            cheap, papers, rate = cheapest_losing(grid, nets_of(grid, NOTHING_FALLS), lost(grid, plan))
            self.assertTrue(holds(grid, cheap) and loss_of(grid, cheap) <= loss_of(grid, plan))
            self.assertEqual(fraction(cost), price_of(grid, plan) - price_of(grid, cheap))
            # That nothing holds that loses no more and costs less: the rate is 0 or the loss is met.
            self.assertTrue(rate == (0, 1) or loss_of(grid, cheap) == loss_of(grid, plan))
            self.assertTrue(is_cheap(grid, cheap, papers, rate))
            if worth == (0, 1):
                self.assertEqual(fraction(cost), price_of(grid, plan) - price_of(grid, best_plan(grid)[0]))
        self.assertTrue(worths > 0 and costs > 0)


if __name__ == "__main__":
    unittest.main()
