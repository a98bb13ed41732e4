import unittest
from fractions import Fraction
from random import Random

from tests.sums import injections, mosts_of, pulls_balance, some_plan, spot
from tests.support import (
    CHAIN, LOOP, MIXED, SINGLE, TRIANGLE, WRONG, fraction, fractions, ratio, ratios, some_full_grid, some_grid,
    some_injections, some_joined_grid,
)
from wattkeep.dispatch import cheapest, flows_of
from wattkeep.errors import BadGrid, BadInjections, BadPlan
from wattkeep.flows import flows
from wattkeep.market import are_borne, gains, rights_worth, settlement
from wattkeep.shedding import best_plan, least_shed

GRID = (("a", "b"), (("x", "a", "b", 1, 3),), (("p", "a", 9, 1), ("q", "b", 9, 4)), (("n", "b", 5, 50),))
PLAN = (ratios(3, 2), ratios(0))
PAPER = (ratios(1, 4), ratios(3))
# The same with the line the other way around: the rent is below 0.
BACK = (GRID[0], (("x", "b", "a", 1, 3),)) + GRID[2:]
NO_PAPERS = (
    (ratios(1, 4), ratios(2)), (ratios(1, 4), ratios(-3)), (ratios(1, 4), ratios(0)), (ratios(1, 4), ()),
    (ratios(1, 4, 4), ratios(3)), (ratios(1), ratios(3)), (ratios(1, 4), ratios(3, 0)), (ratios(1, 4),),
    [ratios(1, 4), ratios(3)], (list(ratios(1, 4)), ratios(3)), (((1, 1), (8, 2)), ratios(3)), (((True, 1), (4, 1)), ratios(3)),
    (ratios(1, 4), ratios(3), ()), ((1, 4), (3,)), (ratios(1, 4), ratios(3)) * 2,
)
NO_PLANS = (
    (ratios(3, 3), ratios(0)), (ratios(3), ratios(0)), (ratios(-4, 9), ratios(0)), (ratios(10, -5), ratios(0)),
    (ratios(3, 2), ratios(-1)), (ratios(3, 2),), [ratios(3, 2), ratios(0)], (ratios(3, 2), [(0, 1)]), ((3, 2), (0,)),
)


def some_answers(random, count):
    """Return grids with plans and papers that cheapest, least_shed and best_plan tell of them."""
    found = []
    while len(found) < count:
        grid = random.choice([some_joined_grid, some_joined_grid, some_full_grid])(random)
        told = cheapest(grid)
        if told[0] == "plan":
            found.append((grid, told[1], told[2]))
        found.append((grid,) + least_shed(grid))
        found.append((grid,) + best_plan(grid)[:2])
    return found


def price_at(grid, paper, user):
    return fraction(paper[0][spot(grid, user)])


def rents_of(grid, paper):
    return sum(abs(rent) * line[4] for line, rent in zip(grid[1], fractions(paper[1])))


class Settlement(unittest.TestCase):
    def test_by_hand(self):
        self.assertEqual(settlement(GRID, PLAN, PAPER), (ratios(20), ratios(3, 8), ratio(9)))
        self.assertEqual(settlement(BACK, PLAN, (PAPER[0], ratios(-3))), (ratios(20), ratios(3, 8), ratio(9)))
        # Any paper will do whose pulls balance, one of which no part is 0 but the rents, too.
        self.assertEqual(settlement(GRID, PLAN, (ratios(-7, -7), ratios(0))), (ratios(-35), ratios(-21, -14), ratio(0)))
        half = (ratios(3, 0), ratios(2))
        self.assertEqual(settlement(GRID, half, PAPER), (ratios(12), ratios(3, 0), ratio(9)))
        self.assertEqual(settlement(SINGLE, ((), ()), (ratios(5), ())), ((), (), ratio(0)))
        third = (ratios(Fraction(1, 3), Fraction(7, 3)), ratios(2))
        self.assertEqual(
            settlement(GRID, (ratios(3, 0), ratios(2)), third[:1] + (ratios(2),)), (ratios(7), ratios(1, 0), ratio(6))
        )

    def test_what_is_paid_is_what_is_got_and_the_rents(self):
        random = Random(181)
        rented, shedding = 0, 0
        for grid, plan, paper in some_answers(random, 300):
            paid, got, rents = settlement(grid, plan, paper)
            for load, shed, part in zip(grid[3], fractions(plan[1]), fractions(paid)):
                self.assertEqual(part, price_at(grid, paper, load) * (load[2] - shed))
            for plant, made, part in zip(grid[2], fractions(plan[0]), fractions(got)):
                self.assertEqual(part, price_at(grid, paper, plant) * made)
            self.assertEqual([len(paid), len(got)], [len(grid[3]), len(grid[2])])
            self.assertEqual(fraction(rents), rents_of(grid, paper))
            self.assertEqual(sum(fractions(paid)), sum(fractions(got)) + fraction(rents))
            rented += rents != (0, 1)
            shedding += any(fractions(plan[1]))
        self.assertGreater(min(rented, shedding), 40, (rented, shedding))

    def test_papers_that_do_not_fit(self):
        for function in (settlement, gains):
            for paper in NO_PAPERS + WRONG:
                with self.assertRaises(BadPlan, msg=(function, paper)):
                    function(GRID, PLAN, paper)
            for plan in NO_PLANS + WRONG:
                with self.assertRaises(BadPlan, msg=(function, plan)):
                    function(GRID, plan, PAPER)
            # Rents on a line that is not full, and on one that is full the other way.
            for plan in ((ratios(2, 3), ratios(0)), (ratios(4, 1), ratios(0)), (ratios(0, 0), ratios(5))):
                with self.assertRaises(BadPlan, msg=plan):
                    function(GRID, plan, PAPER)
                function(GRID, plan, (ratios(4, 4), ratios(0)))
            with self.assertRaises(BadPlan):
                function(BACK, PLAN, (ratios(4, 1), ratios(-3)))
            with self.assertRaises(BadPlan):
                function(BACK, PLAN, (ratios(1, 4), ratios(3)))
            for value in WRONG:
                with self.assertRaises(BadGrid, msg=value):
                    function(value, value, value)

    def test_rents_that_are_bent(self):
        random = Random(182)
        errors = 0
        for grid, plan, paper in some_answers(random, 60):
            found = fractions(flows_of(grid, plan))
            for at, line in enumerate(grid[1]):
                rents = fractions(paper[1])
                rents[at] += random.choice([-1, 1])
                bent = (paper[0], ratios(*rents))
                fits = pulls_balance(grid, grid, fractions(bent[0]), rents) and all(
                    rent == 0 or flow == (known[4] if rent > 0 else -known[4]) for known, flow, rent in zip(grid[1], found, rents)
                )
                for function in (settlement, gains):
                    if fits:
                        function(grid, plan, bent)
                        continue
                    errors += 1
                    with self.assertRaises(BadPlan):
                        function(grid, plan, bent)
        self.assertGreater(errors, 200)


class Gains(unittest.TestCase):
    def test_by_hand(self):
        self.assertEqual(gains(GRID, PLAN, PAPER), (ratios(0, 0), ratios(0, 0)))
        self.assertEqual(gains(GRID, PLAN, (ratios(3, 6), ratios(3))), (ratios(6, 18), ratios(4, 18)))
        # A plant that loses by what it makes would do better to make nothing.
        self.assertEqual(gains(GRID, PLAN, (ratios(-1, 2), ratios(3))), (ratios(-6, 0), ratios(-4, 0)))
        self.assertEqual(gains(GRID, (ratios(0, 0), ratios(5)), (ratios(2, 2), ratios(0))), (ratios(0, 9), ratios(0, 0)))
        self.assertEqual(gains(SINGLE, ((), ()), (ratios(5), ())), ())

    def test_against_each_amount(self):
        random = Random(183)
        less = 0
        for grid, plan, paper in some_answers(random, 200):
            told = gains(grid, plan, paper)
            self.assertEqual(len(told), len(grid[2]))
            for plant, made, (own, most) in zip(grid[2], fractions(plan[0]), told):
                margin = price_at(grid, paper, plant) - plant[3]
                self.assertEqual(fraction(own), made * margin)
                amounts = [margin * part for part in range(plant[2] + 1)]
                self.assertEqual(fraction(most), max(amounts))
                less += own != most
        self.assertGreater(less, 50)

    def test_no_amount_would_gain_a_plant_more_at_the_cheapest_plan(self):
        random = Random(184)
        for _ in range(60):
            grid = some_joined_grid(random)
            told = best_plan(grid)
            self.assertTrue(all(own == most for own, most in gains(grid, *told[:2])))

    def test_some_plan_and_equal_prices(self):
        random = Random(185)
        for _ in range(60):
            grid = some_full_grid(random)
            plan = some_plan(random, grid)
            price = random.randint(-5, 15)
            told = gains(grid, plan, (ratios(*[price for _ in grid[0]]), ratios(*[0 for _ in grid[1]])))
            for plant, made, most, pair in zip(grid[2], fractions(plan[0]), mosts_of(grid), told):
                self.assertEqual(pair, ratios(made * (price - plant[3]), max(0, most * (price - plant[3]))))


class Rights(unittest.TestCase):
    def test_by_hand(self):
        for rights, worth in ((ratios(3, -3), 9), (ratios(-1, 1), -3), (ratios(Fraction(1, 2), Fraction(-1, 2)), Fraction(3, 2)),
                              (ratios(0, 0), 0), (ratios(50, -50), 150)):
            self.assertEqual(rights_worth(GRID, PAPER, rights), ratio(worth))
        for most, borne in ((3, True), (-3, True), (Fraction(301, 100), False), (-4, False), (0, True)):
            self.assertIs(are_borne(GRID, ratios(most, -most)), borne)
        self.assertIs(are_borne(SINGLE, ratios(0)), True)
        self.assertEqual(rights_worth(SINGLE, (ratios(5), ()), ratios(0)), (0, 1))

    def test_rights_that_the_lines_could_bear_are_worth_at_most_the_rents(self):
        random = Random(186)
        borne, dear, full = 0, 0, 0
        for grid, plan, paper in some_answers(random, 200):
            for rights in [injections(grid, plan)] + [some_injections(random, grid) for _ in range(4)]:
                worth = fraction(rights_worth(grid, paper, rights))
                self.assertEqual(worth, -sum(price * part for price, part in zip(fractions(paper[0]), fractions(rights))))
                right = all(abs(flow) <= line[4] for flow, line in zip(fractions(flows(grid, rights)), grid[1]))
                self.assertIs(are_borne(grid, rights), right)
                if right:
                    self.assertLessEqual(worth, rents_of(grid, paper))
                    full += worth == rents_of(grid, paper) > 0
                borne += right
                dear += worth > rents_of(grid, paper)
        self.assertGreater(min(borne, dear, full), 20, (borne, dear, full))

    def test_papers_of_no_plan(self):
        # Rents may stand on any line: only the pulls must balance.
        self.assertEqual(rights_worth(TRIANGLE, (ratios(0, 0, 0), ratios(0, 0, 0)), ratios(1, 1, -2)), (0, 1))
        self.assertEqual(rights_worth(TRIANGLE, (ratios(1, 2, 5), ratios(1, 3, 4)), ratios(1, 1, -2)), (7, 1))
        self.assertEqual(rights_worth(TRIANGLE, (ratios(1, 2, 5), ratios(2, 4, 3)), ratios(1, 1, -2)), (7, 1))
        with self.assertRaises(BadPlan):
            rights_worth(TRIANGLE, (ratios(1, 2, 5), ratios(1, 3, 5)), ratios(1, 1, -2))

    def test_wrong_arguments(self):
        for paper in NO_PAPERS + WRONG:
            with self.assertRaises(BadPlan, msg=paper):
                rights_worth(GRID, paper, None)
        no_rights = WRONG + (ratios(1, 1), ratios(1, -2), ratios(1), ratios(1, -1, 0), (1, -1), list(ratios(1, -1)),
                             ((2, 2), (-1, 1)), ((True, 1), (-1, 1)))
        for rights in no_rights:
            with self.assertRaises(BadInjections, msg=rights):
                rights_worth(GRID, PAPER, rights)
            with self.assertRaises(BadInjections, msg=rights):
                are_borne(GRID, rights)
        for grid, rights in ((CHAIN, ratios(1, 1, -1)), (MIXED, ratios(1, -1, 0, 0, 0, 0, 0)), (LOOP, ratios(1, 1, 1, 1))):
            with self.assertRaises(BadInjections):
                are_borne(grid, rights)
        for value in WRONG:
            with self.assertRaises(BadGrid, msg=value):
                rights_worth(value, value, value)
            with self.assertRaises(BadGrid, msg=value):
                are_borne(value, value)

    def test_rights_of_many_islands(self):
        random = Random(187)
        for _ in range(60):
            grid = some_grid(random)
            rights = some_injections(random, grid)
            right = all(abs(flow) <= line[4] for flow, line in zip(fractions(flows(grid, rights)), grid[1]))
            self.assertIs(are_borne(grid, rights), right)


if __name__ == "__main__":
    unittest.main()
