import unittest
from fractions import Fraction
from random import Random

from tests.support import (
    CHAIN, MIXED, SINGLE, TRIANGLE, TWINS, WRONG, balances, fraction, fractions, have_angles, islands_of, ratio, ratios,
    some_grids, some_injections,
)
from wattkeep.errors import BadInjections, BadName
from wattkeep.flows import angles, flows, losses, reactance, sent, shares


def tried(seed, count):
    random = Random(seed)
    return [(grid, some_injections(random, grid)) for grid in some_grids(seed, count)]


class Flows(unittest.TestCase):
    def test_by_hand(self):
        self.assertEqual(flows(SINGLE, ratios(0)), ())
        self.assertEqual(flows(CHAIN, ratios(1, 1, -2)), ratios(1, -2))
        self.assertEqual(flows(TWINS, ratios(11, -11)), ratios(6, 3, -2))
        self.assertEqual(flows(TRIANGLE, (ratio(1, 2), ratio(0), ratio(-1, 2))), (ratio(1, 6), ratio(1, 6), ratio(1, 3)))
        self.assertEqual(flows(TRIANGLE, ratios(0, 0, 0)), ratios(0, 0, 0))

    def test_balance_and_angles(self):
        for grid, inject in tried(21, 60):
            told = flows(grid, inject)
            self.assertTrue(balances(grid, inject, told))
            self.assertTrue(have_angles(grid, told))


class Angles(unittest.TestCase):
    def test_by_hand(self):
        self.assertEqual(angles(SINGLE, ratios(0)), ratios(0))
        self.assertEqual(angles(CHAIN, ratios(1, 1, -2)), ratios(0, -2, -8))
        self.assertEqual(angles((("b", "a"), (("x", "a", "b", 5, 1),), (), ()), ratios(-2, 2)), ratios(0, 10))

    def test_differences_are_flow_times_reactance(self):
        for grid, inject in tried(22, 60):
            told = dict(zip(grid[0], fractions(angles(grid, inject))))
            self.assertEqual(len(told), len(grid[0]))
            for island in islands_of(grid):
                self.assertEqual(told[island[0]], 0)
            for line, flow in zip(grid[1], fractions(flows(grid, inject))):
                self.assertEqual(told[line[1]] - told[line[2]], flow * line[3])


class Losses(unittest.TestCase):
    def test_by_hand(self):
        self.assertEqual(losses(SINGLE, ratios(0)), (0, 1))
        self.assertEqual(losses(CHAIN, ratios(1, 1, -2)), (14, 1))
        self.assertEqual(losses(TRIANGLE, ratios(1, 0, -1)), (2, 3))

    def test_sum(self):
        for grid, inject in tried(23, 40):
            parts = zip(grid[1], fractions(flows(grid, inject)))
            self.assertEqual(fraction(losses(grid, inject)), sum(line[3] * flow ** 2 for line, flow in parts))


class NoInjections(unittest.TestCase):
    def test_ways_to_be_none(self):
        bad = (
            (), ratios(0), ratios(1, -1), ratios(1, 0, -1, 0), list(ratios(1, 0, -1)), ratios(1, 0, 0), ratios(1, 1, 1),
            ((1, 1), (0, 2), (-1, 1)), ((2, 2), (0, 1), (-1, 1)), ((1, 1), (0, 1), (1, -1)), ((1, 1), 0, (-1, 1)),
            ((True, 1), (0, 1), (-1, 1)), ((1, 1), (False, 1), (-1, 1)), ((1, 1), (0, True), (-1, 1)),
            ([1, 1], (0, 1), (-1, 1)), ((1, 1), (0, 0), (-1, 1)), ((1, 1), None, (-1, 1)), (1, 0, -1),
        )
        for inject in bad + WRONG:
            for call in (flows, angles, losses):
                with self.assertRaises(BadInjections, msg=inject):
                    call(TRIANGLE, inject)

    def test_each_island_must_sum_to_zero(self):
        for inject in (ratios(1, -1, 0, 0, 0, 0, 0), ratios(0, 0, 0, 0, 0, 0, 1), ratios(1, 0, 0, 0, 0, 0, -1)):
            for call in (flows, angles, losses):
                with self.assertRaises(BadInjections):
                    call(MIXED, inject)
        with self.assertRaises(BadInjections):
            flows(SINGLE, ratios(1))


class Sent(unittest.TestCase):
    def test_against_flows(self):
        for grid in some_grids(24, 20):
            for one in grid[0]:
                for other in grid[0]:
                    if any(one in island and other in island for island in islands_of(grid)):
                        self.judge(grid, one, other)
                    else:
                        for call in (sent, reactance):
                            with self.assertRaises(BadInjections):
                                call(grid, one, other)

    def judge(self, grid, one, other):
        inject = {node: Fraction(0) for node in grid[0]}
        inject[one] += 1
        inject[other] -= 1
        inject = ratios(*inject.values())
        self.assertEqual(sent(grid, one, other), flows(grid, inject))
        told = dict(zip(grid[0], fractions(angles(grid, inject))))
        self.assertEqual(fraction(reactance(grid, one, other)), told[one] - told[other])

    def test_by_hand(self):
        self.assertEqual(sent(TRIANGLE, "b", "b"), ratios(0, 0, 0))
        self.assertEqual(sent(SINGLE, "a", "a"), ())
        self.assertEqual(reactance(SINGLE, "a", "a"), (0, 1))
        self.assertEqual(sent(CHAIN, "a", "c"), ratios(1, -1))
        self.assertEqual(reactance(CHAIN, "a", "c"), (5, 1))
        self.assertEqual(reactance(CHAIN, "c", "a"), (5, 1))
        self.assertEqual(reactance(TWINS, "a", "b"), (6, 11))

    def test_names_that_are_none(self):
        for call in (sent, reactance):
            for name in ("x", "s9") + WRONG:
                for one, other in ((name, "a"), ("a", name), (name, name)):
                    with self.assertRaises(BadName):
                        call(MIXED, one, other)
            with self.assertRaises(BadName):
                call(MIXED, "a", "u")


class Shares(unittest.TestCase):
    def test_against_sent(self):
        for grid in some_grids(25, 25):
            firsts = {node: island[0] for island in islands_of(grid) for node in island}
            for place, line in enumerate(grid[1]):
                told = shares(grid, line[0])
                self.assertEqual(told, tuple(sent(grid, node, firsts[node])[place] for node in grid[0]))

    def test_by_hand(self):
        self.assertEqual(shares(TRIANGLE, "z"), (ratio(0), ratio(-1, 3), ratio(-2, 3)))
        self.assertEqual(shares(MIXED, "u"), ratios(0, 0, 0, 0, 0, 1, 0))

    def test_names_that_are_none(self):
        for name in ("a", "zzz") + WRONG:
            with self.assertRaises(BadName):
                shares(TRIANGLE, name)
        with self.assertRaises(BadName):
            shares(SINGLE, "x")


if __name__ == "__main__":
    unittest.main()
