import unittest
from itertools import permutations
from random import Random

from tests.support import (
    CHAIN, MIXED, TRIANGLE, TWINS, WRONG, fractions, islands_of, lacking, ratio, ratios, some_grids, some_injections,
)
from wattkeep.errors import BadInjections, BadName, Bridge
from wattkeep.falls import behind_fall, behind_falls, factors
from wattkeep.flows import flows

NAMES = ("a", "zzz", "", 7, None, True, (), ("x",), ["x"], {"x": 1}, ("x", "x"))


def flows_without(grid, inject, names):
    """Return the flows of the grid without some lines, 0 on these."""
    left = lacking(grid, names)
    known = dict(zip([line[0] for line in left[1]], flows(left, inject)))
    return tuple(known.get(line[0], (0, 1)) for line in grid[1])


def is_bridge(grid, name):
    return len(islands_of(lacking(grid, (name,)))) > len(islands_of(grid))


class Factors(unittest.TestCase):
    def test_by_hand(self):
        self.assertEqual(factors(TRIANGLE, "z"), ratios(1, 1, -1))
        self.assertEqual(factors(TRIANGLE, "x"), ratios(-1, -1, 1))
        self.assertEqual(factors(TWINS, "x"), (ratio(-1), ratio(3, 5), ratio(-2, 5)))
        self.assertEqual(factors(MIXED, "v"), ratios(0, -1, 0, -1, 0, 0))

    def test_parts_that_are_taken_over(self):
        random = Random(41)
        for grid in some_grids(41, 30):
            inject = some_injections(random, grid)
            before = fractions(flows(grid, inject))
            for at, line in enumerate(grid[1]):
                if is_bridge(grid, line[0]):
                    with self.assertRaises(Bridge):
                        factors(grid, line[0])
                    continue
                parts = fractions(factors(grid, line[0]))
                self.assertEqual(parts[at], -1)
                behind = fractions(flows_without(grid, inject, (line[0],)))
                self.assertEqual([flow + part * before[at] for flow, part in zip(before, parts)], behind)

    def test_names_that_are_none(self):
        for name in NAMES + WRONG:
            with self.assertRaises(BadName):
                factors(CHAIN, name)


class BehindFall(unittest.TestCase):
    def test_against_the_grid_without_the_line(self):
        random = Random(42)
        for grid in some_grids(42, 40):
            inject = some_injections(random, grid)
            for line in grid[1]:
                if is_bridge(grid, line[0]):
                    with self.assertRaises(Bridge):
                        behind_fall(grid, inject, line[0])
                else:
                    told = behind_fall(grid, inject, line[0])
                    self.assertEqual(told, flows_without(grid, inject, (line[0],)))

    def test_wrong_arguments(self):
        inject = ratios(1, 0, -1)
        for name in NAMES + WRONG:
            with self.assertRaises(BadName):
                behind_fall(TRIANGLE, inject, name)
            with self.assertRaises(BadInjections):
                behind_fall(TRIANGLE, ratios(1, 0, 1), name)
        with self.assertRaises(BadInjections):
            behind_fall(CHAIN, ratios(1, 0, 1), "x")
        for value in WRONG:
            with self.assertRaises(BadInjections):
                behind_fall(TRIANGLE, value, "x")


class BehindFalls(unittest.TestCase):
    def judge(self, grid, inject, names):
        """Compare with what is so when the lines fall one behind another; return whether they may."""
        left = grid
        may = True
        for name in names:
            may = may and any(line[0] == name for line in left[1]) and not is_bridge(left, name)
            left = lacking(left, (name,))
        if may:
            self.assertEqual(behind_falls(grid, inject, names), flows_without(grid, inject, names))
        else:
            with self.assertRaises(Bridge):
                behind_falls(grid, inject, names)
        return may

    def test_any_names_in_any_order(self):
        random = Random(43)
        seen = []
        for grid in some_grids(43, 40):
            inject = some_injections(random, grid)
            known = [line[0] for line in grid[1]]
            self.assertEqual(behind_falls(grid, inject, ()), flows(grid, inject))
            for _ in range(4):
                if known:
                    names = random.sample(known, random.randint(1, min(4, len(known))))
                    told = [self.judge(grid, inject, order) for order in list(permutations(names))[:6]]
                    self.assertEqual(len(set(told)), 1)
                    seen.append(told[0])
        self.assertEqual(set(seen), {True, False})

    def test_by_hand(self):
        self.assertEqual(behind_falls(TWINS, ratios(6, -6), ("x", "z")), ratios(0, 6, 0))
        self.assertEqual(behind_falls(TWINS, ratios(6, -6), ("z", "x")), ratios(0, 6, 0))
        for names in (("x", "y", "z"), ("x", "x"), ("x", "z", "x")):
            with self.assertRaises(Bridge):
                behind_falls(TWINS, ratios(6, -6), names)
        with self.assertRaises(Bridge):
            behind_falls(TRIANGLE, ratios(1, 0, -1), ("x", "y"))
        with self.assertRaises(Bridge):
            behind_falls(CHAIN, ratios(1, 0, -1), ("x",))

    def test_wrong_arguments(self):
        for names in ("x", "", None, 7, True, ["x"], [], {}, {"x": 1}, ("a",), ("x", "w"), (("x",),), (["x"],), (7,),
                      ("x", "x", "w"), ("x", "y", None)):
            with self.assertRaises(BadName):
                behind_falls(TRIANGLE, ratios(1, 0, -1), names)
            with self.assertRaises(BadInjections):
                behind_falls(TRIANGLE, ratios(1, 0, 1), names)
        for value in WRONG:
            with self.assertRaises(BadInjections):
                behind_falls(TRIANGLE, value, ("x", "x"))


if __name__ == "__main__":
    unittest.main()
