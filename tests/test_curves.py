import unittest
from fractions import Fraction
from random import Random

from tests.sums import cost_told
from tests.support import SINGLE, WRONG, fraction, fractions, ratio, ratios, some_full_grid, some_joined_grid
from wattkeep.curves import cost_at, cost_curve, pieces_of
from wattkeep.dispatch import cheapest
from wattkeep.errors import BadGrid, BadName, BadNumber

# A plant that gets full ahead of the next one, and two that cost the same.
STEPS = (("a",), (), (("p", "a", 4, 1), ("q", "a", 9, 3), ("r", "a", 2, 3), ("s", "a", 5, 0)), (("n", "a", 6, 5),))
# A line that gets full: behind 3 the dear plant makes what is left.
FULL_LINE = (
    ("a", "b"), (("x", "a", "b", 1, 3),), (("p", "a", 9, 1), ("q", "b", 4, 4)), (("n", "b", 5, 50), ("m", "a", 2, 9)),
)
# What goes by z is a quarter of what m takes less a quarter of what n takes, so that m must need about as much as n.
LEVEL = (
    ("a", "b", "c"), (("x", "a", "b", 1, 19), ("y", "b", "c", 1, 19), ("z", "a", "c", 2, 1)), (("p", "b", 14, 3),),
    (("n", "a", 6, 9), ("m", "c", 1, 9)),
)
NOT_MOST = (-1, 1000, 5000, True, False, None, "1", (1,), [1], {}, (1, 1), "")


def some_tight_grid(random):
    """Return a joined grid of small amounts whose lines can bear hardly anything."""
    nodes, lines, plants, loads = some_joined_grid(random, 4)
    lines = tuple(line[:4] + (random.randint(0, 4),) for line in lines)
    plants = tuple(plant[:2] + (random.randint(0, 9), plant[3]) for plant in plants)
    return (nodes, lines, plants, tuple(load[:2] + (random.randint(0, 5), load[3]) for load in loads))


def some_level_grid(random):
    """Return a ring of which one line bears hardly anything, so that two loads must need about the same."""
    lines = tuple(
        (name, one, other, random.randint(1, 5), random.randint(0, 2) if name == "z" else random.randint(5, 15))
        for name, one, other in (("x", "a", "b"), ("y", "b", "c"), ("z", "a", "c"))
    )
    plants = (("p", "b", random.randint(6, 15), random.randint(0, 9)), ("q", "c", random.randint(0, 3), random.randint(0, 9)))
    return (("a", "b", "c"), lines, plants, (("n", "a", random.randint(3, 8), 9), ("m", "c", random.randint(3, 8), 9)))


def needing(grid, name, need):
    """Return the grid in which a load needs something else."""
    loads = tuple(load[:2] + (need, load[3]) if load[0] == name else load for load in grid[3])
    return (grid[0], grid[1], grid[2], loads)


def magnified(grid, factor):
    """Return the grid with all its amounts that many times: its plans are those of the grid that many times."""
    lines = tuple(line[:4] + (line[4] * factor,) for line in grid[1])
    plants = tuple(plant[:2] + (plant[2] * factor, plant[3]) for plant in grid[2])
    loads = tuple(load[:2] + (load[2] * factor, load[3]) for load in grid[3])
    return (grid[0], lines, plants, loads)


def cost_with(grid, name, need, factor=1):
    """Return what the cheapest plan costs if a load needs so much by the factor, None without a plan."""
    known = needing(magnified(grid, factor), name, need)
    cost = cost_told(known, cheapest(known))
    return None if cost is None else cost / factor


class CostCurve(unittest.TestCase):
    def check_form(self, curve, most):
        """Hold the pieces against each other."""
        self.assertIsInstance(curve, tuple)
        pieces = [fractions(piece) for piece in curve]
        self.assertTrue(all(len(piece) == 4 for piece in pieces))
        for (low, high, cost, slope), later in zip(pieces, pieces[1:]):
            self.assertEqual([later[0], later[2]], [high, cost + slope * (high - low)])
            self.assertLess(slope, later[3])
        if len(pieces) == 1 and pieces[0][0] == pieces[0][1]:
            self.assertEqual(pieces[0][3], 0)
        else:
            self.assertTrue(all(low < high for low, high, _, _ in pieces))
        if pieces:
            self.assertTrue(0 <= pieces[0][0] <= pieces[-1][1] <= most)

    def test_by_hand(self):
        two_mid = (("a",), (), (("p", "a", 4, 1),), (("n", "a", 6, 5), ("m", "a", 3, 9)))
        for grid, name, most, curve in (
            (STEPS, "n", 30, (ratios(0, 5, 0, 0), ratios(5, 9, 0, 1), ratios(9, 20, 4, 3))),
            (STEPS, "n", 7, (ratios(0, 5, 0, 0), ratios(5, 7, 0, 1))),
            (STEPS, "n", 5, (ratios(0, 5, 0, 0),)), (STEPS, "n", 0, (ratios(0, 0, 0, 0),)),
            (FULL_LINE, "n", 999, (ratios(0, 3, 2, 1), ratios(3, 7, 5, 4))),
            (FULL_LINE, "m", 999, (ratios(0, 6, 11, 1), ratios(6, 8, 17, 4))),
            (two_mid, "n", 9, (ratios(0, 1, 3, 1),)), (two_mid, "m", 9, ()),
            (needing(two_mid, "m", 4), "n", 9, (ratios(0, 0, 4, 0),)), (needing(two_mid, "m", 5), "n", 9, ()),
        ):
            self.assertEqual(cost_curve(grid, name, most), curve, (grid, name, most))

    def test_curves_that_begin_above_zero_and_end_below_most(self):
        dear = LEVEL[2] + (("q", "c", 9, 7),)
        self.assertEqual(cost_curve(LEVEL, "m", 99), (ratios(2, 8, 24, 3),))
        self.assertEqual(cost_curve(LEVEL, "m", 5), (ratios(2, 5, 24, 3),))
        self.assertEqual(cost_curve(LEVEL[:2] + (dear,) + LEVEL[3:], "m", 99), (ratios(2, 8, 24, 3), ratios(8, 17, 42, 7)))
        self.assertEqual(cost_curve(LEVEL, "n", 99), (ratios(0, 5, 3, 3),))

    def test_one_plan_alone(self):
        shut = (("a", "b"), (("x", "a", "b", 1, 0),), (("p", "a", 9, 1),), (("n", "a", 5, 9), ("m", "b", 0, 9)))
        self.assertEqual(cost_curve(shut, "m", 50), (ratios(0, 0, 5, 0),))
        lines = LEVEL[1][:2] + (("z", "a", "c", 2, 0),)
        level = (LEVEL[0], lines) + LEVEL[2:]
        self.assertEqual(cost_curve(level, "m", 50), (ratios(6, 6, 36, 0),))
        self.assertEqual(cost_curve(level, "m", 6), (ratios(6, 6, 36, 0),))
        self.assertEqual(cost_curve(level, "m", 5), ())
        self.assertEqual(cost_curve(LEVEL, "m", 2), (ratios(2, 2, 24, 0),))
        self.assertEqual(cost_curve(LEVEL, "m", 1), ())
        # A single need that is no integer.
        lines = (("x", "a", "b", 2, 19), ("y", "b", "c", 3, 19), ("z", "a", "c", 2, 0))
        level = (LEVEL[0], lines, LEVEL[2], (("n", "a", 4, 9), ("m", "c", 1, 9)))
        self.assertEqual(cost_curve(level, "m", 50), (ratios(Fraction(8, 3), Fraction(8, 3), 20, 0),))

    def test_the_need_that_the_grid_tells_does_not_count(self):
        for need in (0, 1, 500, 999):
            self.assertEqual(cost_curve(needing(STEPS, "n", need), "n", 30), cost_curve(STEPS, "n", 30))
        self.assertNotEqual(cost_curve(needing(FULL_LINE, "m", 5), "n", 30), cost_curve(FULL_LINE, "n", 30))

    def test_spots_of_one_slope_are_ends_of_one_piece(self):
        spots = [ratios(1, 2), ratios(2, 4), ratios(Fraction(5, 2), 5), ratios(4, 9), ratios(5, 13)]
        right = (ratios(1, Fraction(5, 2), 2, 2), ratios(Fraction(5, 2), 4, 5, Fraction(8, 3)), ratios(4, 5, 9, 4))
        self.assertEqual(pieces_of(spots), right)
        self.assertEqual(pieces_of(spots[:3]), right[:1])

    def test_against_cheapest(self):
        random = Random(151)
        lengths, begun, ended = [], 0, 0
        for _ in range(200):
            grid = random.choice([some_full_grid, some_joined_grid, some_tight_grid, some_level_grid])(random)
            if not grid[3]:
                continue
            name = random.choice(grid[3])[0]
            most = random.choice([0, 7, 20, 40])
            curve = cost_curve(grid, name, most)
            self.check_form(curve, most)
            for need in range(most + 1):
                cost = cost_with(grid, name, need)
                self.assertEqual(cost_at(curve, (need, 1)), None if cost is None else ratio(cost), (grid, name, need))
            lengths.append(len(curve))
            begun += bool(curve) and curve[0][0] != (0, 1)
            ended += bool(curve) and curve[-1][1] != (most, 1)
        for length in (0, 1, 2, 3):
            self.assertGreater(lengths.count(length), 3, lengths)
        self.assertGreater(begun, 9)
        self.assertGreater(ended, 9)

    def test_needs_that_are_no_integers(self):
        random = Random(152)
        between = 0
        for _ in range(200):
            grid = random.choice([some_tight_grid, some_level_grid])(random)
            name = random.choice(grid[3])[0]
            curve = cost_curve(grid, name, 12)
            for start, end, _, _ in curve:
                # A grid that is so many times as great tells of both ends of a piece, of its midst, and of just outside.
                factor = start[1] * end[1] * 2
                if factor > 60:
                    continue
                low, high = [int(fraction(part) * factor) for part in (start, end)]
                for need in (low - 1, low, low + 1, (low + high) // 2, high - 1, high, high + 1):
                    if 0 <= need <= 12 * factor:
                        known = cost_with(grid, name, need, factor)
                        told = cost_at(curve, ratio(need, factor))
                        self.assertEqual(told, None if known is None else ratio(known), (grid, name, need, factor))
                between += start[1] > 1 or end[1] > 1
        self.assertGreater(between, 15)

    def test_wrong_arguments(self):
        for value in WRONG:
            with self.assertRaises(BadName, msg=value):
                cost_curve(STEPS, value, None)
            with self.assertRaises(BadGrid):
                cost_curve(value, value, value)
        for name in ("p", "a", "m", "N", "n ", ("n",), ["n"]):
            with self.assertRaises(BadName, msg=name):
                cost_curve(STEPS, name, 7)
        for most in NOT_MOST:
            with self.assertRaises(BadNumber, msg=most):
                cost_curve(STEPS, "n", most)
        with self.assertRaises(BadName):
            cost_curve(SINGLE, "n", 7)
        self.assertEqual(cost_curve(STEPS, "n", 999)[-1][1], (20, 1))


class CostAt(unittest.TestCase):
    def test_by_hand(self):
        curve = cost_curve(STEPS, "n", 30)
        for need, cost in (
            (0, 0), (Fraction(1, 3), 0), (5, 0), (Fraction(11, 2), Fraction(1, 2)), (9, 4), (Fraction(28, 3), 5), (20, 37),
        ):
            self.assertEqual(cost_at(curve, ratio(need)), ratio(cost))
        for need in (-1, Fraction(-1, 99), 21, Fraction(2001, 100), 10 ** 30):
            self.assertIs(cost_at(curve, ratio(need)), None)

    def test_curves_of_one_need_and_of_none(self):
        self.assertEqual(cost_at((ratios(Fraction(8, 3), Fraction(8, 3), 20, 0),), (8, 3)), (20, 1))
        for need in (2, 3, Fraction(7, 3), Fraction(9, 3)):
            self.assertIs(cost_at((ratios(Fraction(8, 3), Fraction(8, 3), 20, 0),), ratio(need)), None)
            self.assertIs(cost_at((), ratio(need)), None)

    def test_wrong_arguments(self):
        curve = cost_curve(STEPS, "n", 30)
        for value in WRONG + ((2, 2), (True, 1), (1, True), (3, 0), (3, -1), [3, 1], (3,), (3, 1, 1), 3, True):
            with self.assertRaises(BadNumber, msg=value):
                cost_at(curve, value)
            with self.assertRaises(BadNumber, msg=value):
                cost_at((), value)


if __name__ == "__main__":
    unittest.main()
