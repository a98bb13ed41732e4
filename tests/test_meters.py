import unittest
from fractions import Fraction
from itertools import combinations
from random import Random

from tests.sums import free_nodes, missed_by, some_meters, table_of
from tests.support import (
    CHAIN, MIXED, SINGLE, TRIANGLE, TWINS, WRONG, fraction, fractions, islands_of, rank_of, ratio, ratios, some_grid,
)
from wattkeep.errors import BadGrid, BadMeters
from wattkeep.meters import fewest_wrong, needed, state, told_flows

PAIR = (("a", "b"), (("x", "a", "b", 2, 9),), (), ())
# A node that stands first and joins nothing, and behind it two that a line joins.
APART = (("s", "a", "b"), (("x", "b", "a", 3, 9),), (), ())
ZERO = (0, 1)

NOT_METERS = WRONG + (
    (("flow", "x", 3),), (("flow", "x", (2, 2)),), (("flow", "x", (True, 1)),), (("flow", "x", (1, 0)),),
    (("flow", "x", (3, 1), 1),), (("flow", "x"),), (("flow", "a", (3, 1)),), (("angle", "x", (3, 1)),),
    (("inject", "x", (3, 1)),), (("Flow", "x", (3, 1)),), (("flows", "x", (3, 1)),), (("", "x", (3, 1)),),
    ((None, "x", (3, 1)),), (("flow", None, (3, 1)),), (("flow", ["x"], (3, 1)),), (("flow", "x", [3, 1]),),
    (["flow", "x", (3, 1)],), [("flow", "x", (3, 1))], (("angle", "c", (3, 1)),), (("angle", ("a",), (3, 1)),),
    (("Flow", "a", (3, 1)),), (("node", "a", (3, 1)),), (("flow", "a", (3, 1)),), ((None, "a", (3, 1)),), (("", "b", (3, 1)),),
    ("flow", "x", (3, 1)), (("flow", "x", (3, 1)), ("flow", "x", None)), (("flow", "x", (3, 1)), None),
    (("angle", "a", (1, 1)),) * 21, {("flow", "x", (3, 1)): 1}, ((["flow"], "x", (3, 1)),),
)


def is_right_state(grid, meters, told):
    """Tell whether an answer is what point 30 says of readings."""
    table = table_of(grid, meters)
    reads = [fraction(reading[2]) for reading in meters]
    rank = rank_of(table)
    if rank_of([row + [read] for row, read in zip(table, reads)]) > rank:
        word, paper = told
        paper = fractions(paper)
        sums = [sum(part * row[at] for part, row in zip(paper, table)) for at in range(len(free_nodes(grid)))]
        missed = sum(part * read for part, read in zip(paper, reads))
        return word == "none" and len(paper) == len(meters) and not any(sums) and missed != 0
    if rank == len(free_nodes(grid)):
        angles = fractions(told[1])
        firsts = [angles[grid[0].index(island[0])] for island in islands_of(grid)]
        return told[0] == "one" and len(angles) == len(grid[0]) and not any(firsts + missed_by(grid, meters, angles))
    return told == ("many", tuple(node for node in free_nodes(grid) if not is_settled(grid, meters, ("angle", node))))


def is_settled(grid, meters, item):
    """Tell whether readings, whatever they read, settle what another one would read."""
    table = table_of(grid, meters)
    return rank_of(table + table_of(grid, [item])) == rank_of(table)


def fits(grid, meters):
    return state(grid, meters)[0] != "none"


class State(unittest.TestCase):
    def test_by_hand(self):
        for grid, meters, told in (
            (PAIR, (("flow", "x", (3, 1)),), ("one", ratios(0, -6))),
            (PAIR, (("inject", "b", (3, 2)),), ("one", ratios(0, 3))),
            (PAIR, (("angle", "b", (3, 2)),), ("one", ratios(0, Fraction(3, 2)))),
            (PAIR, (), ("many", ("b",))), (PAIR, (("angle", "a", ZERO),), ("many", ("b",))),
            (PAIR, (("flow", "x", (3, 1)), ("inject", "a", (3, 1)), ("inject", "b", (-3, 1))), ("one", ratios(0, -6))),
            (PAIR, (("flow", "x", (3, 1)),) * 20, ("one", ratios(0, -6))),
            (SINGLE, (), ("one", ratios(0))), (SINGLE, (("inject", "a", ZERO), ("angle", "a", ZERO)), ("one", ratios(0))),
            (TRIANGLE, (("flow", "x", (1, 1)), ("flow", "z", (2, 1))), ("one", ratios(0, -1, -2))),
            (TRIANGLE, (("inject", "a", (3, 1)), ("inject", "c", (-3, 1))), ("one", ratios(0, -1, -2))),
            (TRIANGLE, (("flow", "y", (3, 1)),), ("many", ("b", "c"))),
            (TRIANGLE, (("flow", "z", (3, 1)),), ("many", ("b",))),
            (TRIANGLE, (("inject", "a", (3, 1)),), ("many", ("b", "c"))),
            (APART, (("flow", "x", (3, 1)),), ("one", ratios(0, 0, 9))), (APART, (), ("many", ("b",))),
            (APART, (("angle", "s", ZERO), ("inject", "s", ZERO)), ("many", ("b",))),
        ):
            self.assertEqual(state(grid, meters), told, (grid, meters))
            self.assertTrue(is_right_state(grid, meters, told))

    def test_first_nodes_are_fixed(self):
        for grid, meters in (
            (PAIR, (("angle", "a", (1, 1)),)), (APART, (("flow", "x", (3, 1)), ("angle", "a", (1, 3)))),
            (SINGLE, (("inject", "a", (1, 1)),)), (APART, (("inject", "s", (-1, 1)),)), (APART, (("angle", "s", (1, 1)),)),
        ):
            told = state(grid, meters)
            self.assertEqual(told[0], "none")
            self.assertTrue(is_right_state(grid, meters, told), told)
            # The paper is of the reading of what is fixed alone.
            self.assertNotEqual(told[1][-1], ZERO)
            self.assertEqual(told[1][:-1], (ZERO,) * (len(meters) - 1))

    def test_readings_that_do_not_fit(self):
        for grid, meters in (
            (PAIR, (("flow", "x", (3, 1)), ("flow", "x", (4, 1)))),
            (PAIR, (("flow", "x", (3, 1)), ("inject", "b", (3, 1)))),
            (PAIR, (("flow", "x", (1, 2)), ("angle", "b", (-1, 2)))),
            (TRIANGLE, (("flow", "x", (1, 1)), ("flow", "y", (1, 1)), ("flow", "z", (1, 1)))),
            (CHAIN, (("inject", "a", (1, 1)), ("inject", "b", (1, 1)), ("inject", "c", (1, 1)))),
        ):
            told = state(grid, meters)
            self.assertEqual(told[0], "none")
            self.assertTrue(is_right_state(grid, meters, told), told)

    def test_sums(self):
        random = Random(161)
        words = []
        for _ in range(400):
            grid = random.choice([some_grid(random), some_grid(random, 4), MIXED, TWINS, TRIANGLE])
            meters = some_meters(random, grid, random.choice([0, 0, 1, 2]), random.choice([4, 12, 20]))
            told = state(grid, meters)
            self.assertTrue(is_right_state(grid, meters, told), (grid, meters, told))
            words.append(told[0])
        for word in ("one", "many", "none"):
            self.assertGreater(words.count(word), 60, words)


class ToldFlows(unittest.TestCase):
    def test_by_hand(self):
        for grid, meters, told in (
            (PAIR, (("angle", "b", (3, 1)),), ratios(Fraction(-3, 2))), (PAIR, (), (None,)), (SINGLE, (), ()),
            (TRIANGLE, (("flow", "y", (3, 1)),), (None, (3, 1), None)),
            (TRIANGLE, (("inject", "a", (3, 1)),), (None, None, None)),
            (TRIANGLE, (("inject", "a", (3, 1)), ("flow", "y", (-1, 2))), ratios(Fraction(7, 4), Fraction(-1, 2), Fraction(5, 4))),
            # Twins bear as their reactances are.
            (TWINS, (("flow", "y", (3, 1)),), ratios(6, 3, -2)),
            (PAIR, (("flow", "x", (3, 1)), ("flow", "x", (4, 1))), None), (SINGLE, (("angle", "a", (4, 1)),), None),
            (APART, (("angle", "b", (6, 1)),), ratios(2)),
        ):
            self.assertEqual(told_flows(grid, meters), told, (grid, meters))

    def test_flows_whose_ends_are_not_settled(self):
        chain = (("a", "b", "c", "d"), (("x", "a", "b", 2, 9), ("y", "c", "b", 3, 9), ("z", "c", "d", 5, 9)), (), ())
        meters = (("flow", "y", (7, 1)), ("inject", "d", (4, 1)))
        self.assertEqual(state(chain, meters), ("many", ("b", "c", "d")))
        self.assertEqual(told_flows(chain, meters), (None, (7, 1), (-4, 1)))

    def test_sums(self):
        random = Random(162)
        settled, open_lines, without = 0, 0, 0
        for _ in range(250):
            grid = random.choice([some_grid(random), some_grid(random, 4), MIXED, TWINS])
            meters = some_meters(random, grid, random.choice([0, 0, 0, 1]), random.choice([4, 12]))
            told = told_flows(grid, meters)
            if not fits(grid, meters):
                self.assertIs(told, None)
                without += 1
                continue
            self.assertEqual(len(told), len(grid[1]))
            for line, flow in zip(grid[1], told):
                self.assertEqual(flow is not None, is_settled(grid, meters, ("flow", line[0])))
                if flow is not None:
                    # Readings settle it, so that they fit with no other one.
                    self.assertTrue(fits(grid, (meters + (("flow", line[0], flow),))[-20:]))
                    self.assertEqual(told_flows(grid, (meters + (("flow", line[0], flow),))[-20:])[grid[1].index(line)], flow)
                    other = ratio(fraction(flow) + 1)
                    self.assertFalse(len(meters) < 20 and fits(grid, meters + (("flow", line[0], other),)))
                settled += flow is not None
                open_lines += flow is None
        self.assertGreater(min(settled, open_lines), 100)
        self.assertGreater(without, 10)


class Needed(unittest.TestCase):
    def test_by_hand(self):
        for grid, meters, told in (
            (PAIR, (), ()), (PAIR, (("flow", "x", (3, 1)),), (0,)), (PAIR, (("flow", "x", (3, 1)),) * 2, ()),
            (PAIR, (("flow", "x", (3, 1)), ("flow", "x", (9, 1))), ()), (PAIR, (("angle", "a", ZERO),), ()),
            (PAIR, (("angle", "a", (7, 1)), ("inject", "b", (1, 1))), (1,)),
            (TRIANGLE, (("flow", "x", (1, 1)), ("flow", "z", (2, 1))), (0, 1)),
            (TRIANGLE, (("flow", "x", (1, 1)), ("flow", "y", (5, 1)), ("flow", "z", (2, 1))), ()),
            (MIXED, (("flow", "x", (1, 1)), ("flow", "v", (5, 1)), ("flow", "w", (2, 1)), ("angle", "d", (1, 1))), (0, 3)),
            (TRIANGLE, (("inject", "a", (1, 1)), ("inject", "b", (1, 1)), ("inject", "c", (1, 1))), ()),
            (TRIANGLE, (("inject", "a", (1, 1)),), (0,)), (SINGLE, (("inject", "a", (1, 1)),), ()),
        ):
            self.assertEqual(needed(grid, meters), told, (grid, meters))

    def test_against_the_rank(self):
        random = Random(163)
        counts = []
        for _ in range(300):
            grid = random.choice([some_grid(random), some_grid(random, 4), MIXED, TWINS])
            meters = some_meters(random, grid, random.choice([0, 2]), random.choice([3, 6, 20]))
            told = needed(grid, meters)
            right = [
                at for at, reading in enumerate(meters)
                if not is_settled(grid, meters[:at] + meters[at + 1:], reading)
            ]
            self.assertEqual(told, tuple(right), (grid, meters))
            # Whatever they read.
            others = tuple(reading[:2] + (ratio(random.randint(-9, 9)),) for reading in meters)
            self.assertEqual(needed(grid, others), told)
            counts.append((len(told) > 0) + (len(told) == len(meters)))
        for count in range(3):
            self.assertGreater(counts.count(count), 30)


class FewestWrong(unittest.TestCase):
    def test_by_hand(self):
        good = ("flow", "x", (3, 1))
        bad, worse, other = [("flow", "x", (read, 1)) for read in (4, 5, 6)]
        for meters, told in (
            ((), ()), ((good,), ()), ((good, good), ()), ((good, bad), (0,)), ((good, good, bad), (2,)), ((bad, good, good), (0,)),
            ((good, bad, good, worse, good), (1, 3)), ((good, bad, worse), (0, 1)), ((good, good, bad, bad), (0, 1)),
            ((bad, worse, good, other), None), ((good, good, good, bad, worse, other), None),
            ((bad, good, bad, good, bad), (1, 3)), ((("angle", "a", (1, 1)), good), (0,)),
            ((("angle", "a", (1, 1)), ("angle", "a", (2, 1)), good), (0, 1)), ((("angle", "a", (1, 1)),) * 3, None),
        ):
            self.assertEqual(fewest_wrong(PAIR, meters), told, meters)

    def test_against_state(self):
        random = Random(164)
        found = []
        for _ in range(200):
            grid = random.choice([some_grid(random, 3), TRIANGLE, MIXED, TWINS])
            meters = some_meters(random, grid, random.randint(0, 4), 14)
            told = fewest_wrong(grid, meters)
            lots = [lot for count in range(3) for lot in combinations(range(len(meters)), count)]
            fitting = [
                lot for lot in lots if fits(grid, tuple(reading for at, reading in enumerate(meters) if at not in lot))
            ]
            self.assertEqual(told, fitting[0] if fitting else None, (grid, meters))
            self.assertFalse(told is None and fits(grid, meters))
            found.append(None if told is None else len(told))
        for count in (None, 0, 1, 2):
            self.assertGreater(found.count(count), 15, found)

    def test_twenty_readings(self):
        random = Random(165)
        meters = tuple(("flow", "x", (random.randint(0, 99), 1)) for _ in range(20))
        self.assertIs(fewest_wrong(PAIR, meters), None)
        meters = (("flow", "x", (7, 1)),) * 17 + (("flow", "x", (8, 1)), ("flow", "x", (7, 1)), ("angle", "b", (0, 1)))
        self.assertEqual(fewest_wrong(PAIR, meters), (17, 19))


class Wrong(unittest.TestCase):
    def test_wrong_arguments(self):
        for function in (state, told_flows, needed, fewest_wrong):
            for value in NOT_METERS:
                if value != ():
                    with self.assertRaises(BadMeters, msg=(function, value)):
                        function(PAIR, value)
            for value in WRONG:
                with self.assertRaises(BadGrid, msg=(function, value)):
                    function(value, value)
            # A line and a node of other names are none of this grid.
            for reading in (("flow", "y", ZERO), ("inject", "c", ZERO), ("angle", "c", ZERO), ("angle", "s", ZERO)):
                with self.assertRaises(BadMeters):
                    function(PAIR, (reading,))


if __name__ == "__main__":
    unittest.main()
