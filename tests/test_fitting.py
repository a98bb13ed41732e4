import unittest
from fractions import Fraction
from random import Random

from tests.sums import free_nodes, missed_by, some_meters, table_of
from tests.support import (
    CHAIN, MIXED, SINGLE, TRIANGLE, TWINS, WRONG, fraction, fractions, islands_of, rank_of, ratio, ratios, some_grid,
)
from wattkeep.errors import BadGrid, BadMeters
from wattkeep.fitting import fitted
from wattkeep.meters import state

PAIR = (("a", "b"), (("x", "a", "b", 2, 9),), (), ())
READ = (("flow", "x", (3, 1)), ("flow", "x", (6, 1)))
NOT_WEIGHTS = WRONG + (
    (1,), (1, 2, 3), [1, 2], (0, 1), (1, 0), (100, 1), (1, 100), (1, -1), (True, 1), (1, True), (1, None), ((1, 1), 1),
    ("1", 1), (1, (2, 1)), {1: 1, 2: 2}, 12, (),
)


def sum_of(grid, meters, weights, angles):
    missed = missed_by(grid, meters, angles)
    return sum((weight * part * part for weight, part in zip(weights, missed)), Fraction(0))


def is_least(grid, meters, weights, angles):
    """Tell whether no other angles have a lesser sum: it does not move with any angle that is not fixed.

    The sum is a sum of squares, so that where it does not move it is least.
    """
    missed = missed_by(grid, meters, angles)
    table = table_of(grid, meters)
    moves = [sum(w * row[at] * part for w, row, part in zip(weights, table, missed)) for at in range(len(free_nodes(grid)))]
    return not any(moves)


def fixed_with(grid, meters, names):
    """Return readings and, for some nodes, readings of the angle 0."""
    return meters + tuple(("angle", node, (0, 1)) for node in names)


class Fitted(unittest.TestCase):
    def test_by_hand(self):
        for grid, meters, weights, told in (
            (PAIR, READ, (1, 1), (ratios(0, -9), ratio(9, 2))), (PAIR, READ, (2, 1), (ratios(0, -8), ratio(6))),
            (PAIR, READ, (1, 99), (ratios(0, Fraction(-1194, 100)), ratio(891, 100))),
            (PAIR, READ[:1], (7,), (ratios(0, -6), ratio(0))), (PAIR, (), (), (None, ratio(0))),
            (SINGLE, (), (), (ratios(0), ratio(0))), (SINGLE, (("angle", "a", (3, 1)),), (2,), (ratios(0), ratio(18))),
            (PAIR, (("angle", "a", (3, 2)),), (4,), (None, ratio(9))),
            (PAIR, (("angle", "a", (3, 2)), ("angle", "b", (1, 2))), (4, 5), (ratios(0, Fraction(1, 2)), ratio(9))),
            # Around the ring the readings miss a sum of 3, which each line bears a third of.
            (TRIANGLE, (("flow", "x", (1, 1)), ("flow", "y", (1, 1)), ("flow", "z", (-1, 1))), (1, 1, 1),
             (ratios(0, 0, 0), ratio(3))),
            (TRIANGLE, (("flow", "y", (1, 1)), ("flow", "y", (3, 1))), (1, 3), (None, ratio(3))),
            (CHAIN, (("inject", "a", (1, 1)), ("inject", "b", (1, 1)), ("inject", "c", (1, 1))), (5, 5, 5),
             (ratios(0, 0, 0), ratio(15))),
        ):
            self.assertEqual(fitted(grid, meters, weights), told, (grid, meters, weights))

    def test_readings_that_fit(self):
        random = Random(171)
        found = []
        for _ in range(120):
            grid = random.choice([some_grid(random, 4), some_grid(random), MIXED, TWINS])
            meters = some_meters(random, grid, 0, 12)
            angles, least = fitted(grid, meters, tuple(random.randint(1, 99) for _ in meters))
            self.assertEqual(least, (0, 1))
            told = state(grid, meters)
            self.assertEqual(angles, told[1] if told[0] == "one" else None)
            found.append(told[0])
        self.assertGreater(min(found.count("one"), found.count("many")), 20)

    def test_sums(self):
        random = Random(172)
        ones, manys = 0, 0
        for _ in range(200):
            grid = random.choice([some_grid(random, 4), some_grid(random), MIXED, TWINS, TRIANGLE])
            meters = some_meters(random, grid, random.randint(0, 6), 14)
            weights = tuple(random.choice([1, 2, 50, 99, random.randint(1, 99)]) for _ in meters)
            angles, least = fitted(grid, meters, weights)
            table = table_of(grid, meters)
            settled = rank_of(table) == len(free_nodes(grid))
            self.assertEqual(angles is not None, settled)
            if settled:
                known = fractions(angles)
                firsts = [known[grid[0].index(island[0])] for island in islands_of(grid)]
                self.assertEqual([len(known), any(firsts)], [len(grid[0]), False])
                self.assertTrue(is_least(grid, meters, weights, known), (grid, meters, weights))
                self.assertEqual(ratio(sum_of(grid, meters, weights, known)), least)
                # Any other angles have a greater sum.
                for node in free_nodes(grid):
                    other = [part + (name == node) * random.choice([-2, 1, Fraction(1, 9)]) for name, part in zip(grid[0], known)]
                    self.assertGreater(sum_of(grid, meters, weights, other), fraction(least))
                ones += least != (0, 1)
            elif len(meters) < 13:
                # Nodes at angles that nothing settles may be fixed: the sum stays.
                names = []
                for node in free_nodes(grid):
                    more = fixed_with(grid, meters, names + [node])
                    if rank_of(table_of(grid, more)) == rank_of(table) + len(names) + 1:
                        names.append(node)
                more = fixed_with(grid, meters, names)
                known, same = fitted(grid, more, weights + (1,) * len(names))
                self.assertEqual(same, least, (grid, meters, weights))
                self.assertTrue(is_least(grid, meters, weights, fractions(known)))
                self.assertEqual(ratio(sum_of(grid, meters, weights, fractions(known))), least)
                manys += least != (0, 1)
        self.assertGreater(min(ones, manys), 9, (ones, manys))

    def test_twenty_readings(self):
        meters = tuple(("flow", "x", (read, 1)) for read in range(20))
        self.assertEqual(fitted(PAIR, meters, (3,) * 20), (ratios(0, -19), ratio(1995)))

    def test_wrong_arguments(self):
        for weights in NOT_WEIGHTS:
            with self.assertRaises(BadMeters, msg=weights):
                fitted(PAIR, READ, weights)
        for weights in ((1,), (1, 1, 1), None):
            with self.assertRaises(BadMeters):
                fitted(PAIR, (), weights)
        for value in WRONG:
            if value != ():
                with self.assertRaises(BadMeters, msg=value):
                    fitted(PAIR, value, ())
            with self.assertRaises(BadGrid, msg=value):
                fitted(value, READ, (1, 1))
        with self.assertRaises(BadMeters):
            fitted(PAIR, READ[:1] * 21, (1,) * 21)
        with self.assertRaises(BadMeters):
            fitted(PAIR, (("flow", "y", (1, 1)),), (1,))


if __name__ == "__main__":
    unittest.main()
