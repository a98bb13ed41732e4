import unittest
from itertools import combinations
from random import Random

from tests.sums import is_least_told, loss_of, try_bent
from tests.support import SINGLE, WRONG, ratios, some_full_grid, some_joined_grid
from wattkeep.errors import BadGrid, BadNumber, BadOffers
from wattkeep.offers import best_build, shows_best_build
from wattkeep.shedding import least_shed, lost, shows_least_shed

# 3 of 9 come to b, and nothing to c.
WEAK = (
    ("a", "b", "c"), (("x", "a", "b", 1, 3),), (("p", "a", 30, 1),), (("n", "b", 9, 10), ("m", "c", 4, 30)),
)
TO_B = (("y", "a", "b", 1, 3), 20)
TO_B_TOO = (("z", "b", "a", 1, 3), 20)
TO_C = (("w", "a", "c", 1, 9), 50)
PAST_B = (("v", "b", "c", 1, 2), 10)


def lots_of(offers, budget):
    """Return (price, places) of the lots within the budget, in the order of point 25."""
    lots = [lot for count in range(len(offers) + 1) for lot in combinations(range(len(offers)), count)]
    known = [(sum(offers[at][1] for at in lot), lot) for lot in lots]
    return sorted(lot for lot in known if lot[0] <= budget)


def lot_grid(grid, offers, places):
    return (grid[0], grid[1] + tuple(offers[at][0] for at in places), grid[2], grid[3])


def is_right(grid, offers, budget, value):
    """Tell whether (places, price, tolds) is as point 25 says."""
    places, price, tolds = value
    lots = lots_of(offers, budget)
    if not isinstance(tolds, tuple) or len(tolds) != len(lots):
        return False
    grids = [lot_grid(grid, offers, lot) for _, lot in lots]
    if not all(is_least_told(built, told) for built, told in zip(grids, tolds)):
        return False
    losses = [loss_of(built, told[0]) for built, told in zip(grids, tolds)]
    first = lots[losses.index(min(losses))]
    return repr((price, places)) == repr(first)


def some_offers(random, grid):
    found = []
    for at in range(random.randint(0, min(4, 14 - len(grid[1])))):
        one, other = random.sample(grid[0], 2)
        line = ("o" + str(at), one, other, random.randint(1, 9), random.randint(0, 15))
        found.append((line, random.choice([0, 1, 2, 5, 9999])))
    return tuple(found)


class BestBuild(unittest.TestCase):
    def check(self, grid, offers, budget, places, price, worth):
        told = best_build(grid, offers, budget)
        self.assertEqual(told[:2], (places, price), (offers, budget))
        self.assertTrue(is_right(grid, offers, budget, told))
        self.assertIs(shows_best_build(grid, offers, budget, told), True)
        built = lot_grid(grid, offers, places)
        self.assertEqual(lost(built, least_shed(built)[0]), (worth, 1))

    def test_the_budget(self):
        offers = (TO_B, TO_C)
        for budget, places, price, worth in (
            (0, (), 0, 180), (19, (), 0, 180), (20, (0,), 20, 150), (49, (0,), 20, 150), (50, (1,), 50, 60),
            (69, (1,), 50, 60), (70, (0, 1), 70, 30), (99999, (0, 1), 70, 30),
        ):
            self.check(WEAK, offers, budget, places, price, worth)
            turned = tuple(sorted(1 - at for at in places))
            self.check(WEAK, offers[::-1], budget, turned, price, worth)

    def test_the_first_of_lots_with_which_as_little_is_lost(self):
        # Either line to b does as much: the cheaper one is first, then the one ahead.
        self.check(WEAK, (TO_B, TO_B_TOO), 20, (0,), 20, 150)
        self.check(WEAK, (TO_B_TOO, TO_B), 39, (0,), 20, 150)
        self.check(WEAK, ((TO_B[0], 21), TO_B_TOO), 39, (1,), 20, 150)
        self.check(WEAK, (TO_B, TO_B_TOO), 40, (0, 1), 40, 120)
        # What is offered for nothing is not taken for nothing: () comes ahead of (0,).
        useless = (("u", "a", "b", 99, 0), 0)
        self.check(WEAK, (useless,), 0, (), 0, 180)
        free = (TO_B[0], 0)
        self.check(WEAK, (free,), 0, (0,), 0, 150)
        self.check(WEAK, (free, useless), 0, (0,), 0, 150)
        self.check(WEAK, (useless, free), 0, (1,), 0, 150)
        strong = WEAK[:3] + ((("n", "b", 3, 10),),)
        self.check(strong, (TO_B, TO_C), 99999, (), 0, 0)

    def test_lots_of_one_price_stand_by_their_places(self):
        offers = ((TO_B[0], 5), (TO_B_TOO[0], 5), (TO_C[0], 10), (PAST_B[0], 0))
        told = best_build(WEAK, offers, 10)
        lots = [(), (3,), (0,), (0, 3), (1,), (1, 3), (0, 1), (0, 1, 3), (2,), (2, 3)]
        self.assertEqual([places for _, places in lots_of(offers, 10)], lots)
        self.assertEqual(told[2], tuple(least_shed(lot_grid(WEAK, offers, lot)) for lot in lots))
        self.assertEqual([len(paper[1]) for _, paper in told[2]], [1 + len(lot) for lot in lots])

    def test_lots_beyond_the_budget_are_not_told(self):
        offers = (TO_B, TO_B_TOO, TO_C, PAST_B)
        for budget, count in ((0, 1), (9, 1), (10, 2), (20, 4), (30, 6), (99999, 16)):
            self.assertEqual(len(best_build(WEAK, offers, budget)[2]), count)

    def test_no_offers(self):
        for grid in (WEAK, SINGLE):
            for budget in (0, 99999):
                places, price, tolds = best_build(grid, (), budget)
                self.assertEqual((places, price, tolds), ((), 0, (least_shed(grid),)))
                self.assertIs(shows_least_shed(grid, tolds[0]), True)

    def test_sums(self):
        random = Random(141)
        found = set()
        for _ in range(80):
            grid = random.choice([some_full_grid, some_joined_grid, some_joined_grid])(random)
            if len(grid[0]) < 2:
                continue
            offers, budget = some_offers(random, grid), random.choice([0, 1, 3, 7, 99999])
            told = best_build(grid, offers, budget)
            found.add((len(offers), len(told[0])))
            self.assertTrue(is_right(grid, offers, budget, told), (grid, offers, budget))
            self.assertIs(shows_best_build(grid, offers, budget, told), True)
            built = lot_grid(grid, offers, told[0])
            self.assertLessEqual(loss_of(built, least_shed(built)[0]), loss_of(grid, least_shed(grid)[0]))
        self.assertTrue({0, 1, 2, 3, 4} <= {many for many, _ in found} and {0, 1, 3} <= {taken for _, taken in found}, found)

    def test_wrong_offers(self):
        full = (("a", "b"), tuple(("l" + str(at), "a", "b", 1, 1) for at in range(12)), (), ())
        line = TO_B[0]
        for grid, offers in [(WEAK, value) for value in WRONG] + [
            (WEAK, (TO_B, TO_B)), (WEAK, (TO_B, (("y", "a", "c", 2, 2), 1))), (WEAK, ((("x", "a", "b", 1, 3), 1),)),
            (WEAK, ((("a", "a", "b", 1, 3), 1),)), (WEAK, ((("p", "a", "b", 1, 3), 1),)), (WEAK, ((("n", "a", "b", 1, 3), 1),)),
            (WEAK, ((("y", "a", "d", 1, 3), 1),)), (WEAK, ((("y", "a", "a", 1, 3), 1),)), (WEAK, ((("y", "a", "p", 1, 3), 1),)),
            (WEAK, ((("y", "a", "b", 0, 3), 1),)), (WEAK, ((("y", "a", "b", 100, 3), 1),)),
            (WEAK, ((("y", "a", "b", 1, 1000), 1),)), (WEAK, ((("Y", "a", "b", 1, 3), 1),)), (WEAK, ((list(line), 1),)),
            (WEAK, ((("y", "a", "b", 1), 1),)), (WEAK, ((("y", "a", "b", True, 3), 1),)), (WEAK, ((line, -1),)),
            (WEAK, ((line, 10000),)), (WEAK, ((line, True),)), (WEAK, ((line, (1, 1)),)), (WEAK, ((line, None),)),
            (WEAK, ((line,),)), (WEAK, ((line, 1, 1),)), (WEAK, ([line, 1],)), (WEAK, [TO_B]), (WEAK, TO_B), (WEAK, (line, 1)),
            (WEAK, (TO_B, None)), (WEAK, {line: 1}),
            (WEAK, tuple((("o" + str(at), "a", "b", 1, 1), 1) for at in range(5))),
            (full, tuple((("o" + str(at), "a", "b", 1, 1), 1) for at in range(3))), (SINGLE, (TO_B,)),
        ]:
            for call in (best_build, lambda *args: shows_best_build(*args, None)):
                with self.assertRaises(BadOffers, msg=offers):
                    call(grid, offers, 5)
                # The offers' error comes ahead of the budget's, behind the grid's.
                with self.assertRaises(BadOffers, msg=offers):
                    call(grid, offers, None)
                with self.assertRaises(BadGrid):
                    call(None, offers, None)
        self.assertEqual(len(best_build(full, tuple((("o" + str(at), "a", "b", 1, 1), 1) for at in range(2)), 9)[2]), 4)
        self.assertEqual(best_build(WEAK, ((line, 9999),), 99999)[1], 9999)

    def test_wrong_budgets(self):
        for budget in WRONG + (-1, 100000, True, False, None, (5, 1), "5", [5]):
            if budget not in (0, 7) or isinstance(budget, bool):
                for call in (best_build, lambda *args: shows_best_build(*args, None)):
                    with self.assertRaises(BadNumber, msg=budget):
                        call(WEAK, (TO_B,), budget)


class ShowsBestBuild(unittest.TestCase):
    def test_other_heads(self):
        offers = (TO_B, TO_C)
        places, price, tolds = best_build(WEAK, offers, 70)
        for head, right in (
            (((0, 1), 70), True), (((1, 0), 70), False), (((1,), 50), False), (((), 0), False), (((0, 1), 69), False),
            (((False, 1), 70), False), (((0, True), 70), False), (([0, 1], 70), False), (((0, 1), (70, 1)), False),
            (((1, 2), 70), False), ((None, 70), False), (((0, 1), None), False), ((70, (0, 1)), False),
        ):
            self.assertIs(shows_best_build(WEAK, offers, 70, (*head, tolds)), right, head)
        self.assertIs(shows_best_build(WEAK, offers, 50, ((1,), 50, tolds[:3])), True)
        self.assertIs(shows_best_build(WEAK, offers, 50, ((1,), 50, tolds)), False)
        # True equals 1.
        one = ((TO_B[0], 1),)
        places, price, tolds = best_build(WEAK, one, 1)
        self.assertEqual((places, price), ((0,), 1))
        for head in (((0,), True), ((False,), 1)):
            self.assertIs(shows_best_build(WEAK, one, 1, (*head, tolds)), False)

    def test_other_right_answers(self):
        offers = (TO_B,)
        places, price, tolds = best_build(WEAK, offers, 20)
        # Price at b is 10, wherever it comes from; with y 6 of n are served.
        for rents, right in ((ratios(10, 10), True), (ratios(9, 10), False)):
            other = ((ratios(6), ratios(3, 4)), (ratios(0, 10, 30), rents))
            self.assertIs(shows_best_build(WEAK, offers, 20, (places, price, (tolds[0], other))), right)

    def test_bent_in_one_place(self):
        random = Random(142)
        falses = 0
        lots = [(WEAK, (TO_B, TO_C), 69), (WEAK, (PAST_B,), 10), (WEAK, (), 0)]
        while len(lots) < 7:
            grid = some_full_grid(random)
            if 1 < len(grid[0]) < 4:
                lots.append((grid, some_offers(random, grid)[:2], 5))
        for grid, offers, budget in lots:
            falses += try_bent(
                self, best_build(grid, offers, budget), lambda told: is_right(grid, offers, budget, told),
                lambda told: shows_best_build(grid, offers, budget, told),
            )
        self.assertGreater(falses, 1000)

    def test_values_of_other_kinds(self):
        told = best_build(WEAK, (TO_B,), 20)
        places, price, tolds = told
        for value in WRONG + (told[:2], told[1:], told + (0,), (tolds, price, places), list(told), (places, price, tolds[:1]),
                              (places, price, tolds + tolds[:1]), (places, price, tolds[::-1]), (places, price, list(tolds)),
                              (places, price, None), (places, price, tolds[0])):
            self.assertIs(shows_best_build(WEAK, (TO_B,), 20, value), False, value)


if __name__ == "__main__":
    unittest.main()
