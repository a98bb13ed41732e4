import unittest
from fractions import Fraction
from itertools import combinations

from tests.support import (
    CHAIN, MIXED, SINGLE, TRIANGLE, TWINS, WRONG, fraction, islands_of, lacking, ratio, some_grids,
)
from wattkeep.errors import BadInjections, BadName
from wattkeep.flows import reactance
from wattkeep.trees import part_in_trees, reactance_by_trees, sum_over_lines, tree_weight, trees


def lots(grid):
    """Return the names of each lot of lines that is a tree of each island, by trying all lots."""
    count = len(islands_of(grid))
    return [
        tuple(line[0] for line in lot)
        for lot in combinations(grid[1], len(grid[0]) - count)
        if len(islands_of((grid[0], lot, (), ()))) == count
    ]


def weight(grid, lot):
    product = Fraction(1)
    for line in grid[1]:
        if line[0] in lot:
            product /= line[3]
    return product


def tried(seed, count):
    return [grid for grid in some_grids(seed, count) if len(grid[0]) < 7 or len(grid[1]) < 11]


FULL = (
    tuple("abcdefgh"),
    tuple(
        ("l" + str(at), one, other, at + 1, 9)
        for at, (one, other) in enumerate(
            ("ab", "bc", "cd", "de", "ef", "fg", "gh", "ha", "ac", "bd", "ce", "df", "eg", "fh")
        )
    ),
    (), (),
)


class Trees(unittest.TestCase):
    def test_by_hand(self):
        self.assertEqual(trees(SINGLE), [()])
        self.assertEqual(trees(CHAIN), [("x", "y")])
        self.assertEqual(trees(TWINS), [("x",), ("y",), ("z",)])
        self.assertEqual(trees(TRIANGLE), [("x", "y"), ("x", "z"), ("y", "z")])

    def test_all_in_order(self):
        for grid in tried(31, 60):
            if len(islands_of(grid)) == 1:
                self.assertEqual(trees(grid), lots(grid))

    def test_ordered_by_places_and_not_by_names(self):
        grid = (("a", "b"), (("z", "a", "b", 1, 9), ("b1", "b", "a", 1, 9), ("m", "a", "b", 1, 9)), (), ())
        self.assertEqual(trees(grid), [("z",), ("b1",), ("m",)])

    def test_the_largest_grid(self):
        found = trees(FULL)
        places = {line[0]: at for at, line in enumerate(FULL[1])}
        keys = [tuple(places[name] for name in names) for names in found]
        self.assertEqual(keys, sorted(set(keys)))
        self.assertEqual(sum(weight(FULL, names) for names in found), fraction(tree_weight(FULL)))

    def test_more_islands(self):
        for grid in some_grids(32, 40):
            if len(islands_of(grid)) > 1:
                with self.assertRaises(BadInjections):
                    trees(grid)
        with self.assertRaises(BadInjections):
            trees((("a", "b"), (), (), ()))


class Weights(unittest.TestCase):
    def test_by_hand(self):
        self.assertEqual(tree_weight(SINGLE), (1, 1))
        self.assertEqual(tree_weight((("a", "b"), (), (), ())), (1, 1))
        self.assertEqual(tree_weight(CHAIN), (1, 6))
        self.assertEqual(tree_weight(TWINS), (11, 6))
        self.assertEqual([part_in_trees(TWINS, name) for name in "xyz"], [(6, 11), (3, 11), (2, 11)])
        self.assertEqual(part_in_trees(CHAIN, "y"), (1, 1))
        self.assertEqual(part_in_trees(MIXED, "u"), (1, 1))

    def test_sums_over_trees(self):
        for grid in tried(33, 40):
            found = lots(grid)
            whole = sum(weight(grid, lot) for lot in found)
            self.assertEqual(fraction(tree_weight(grid)), whole)
            for line in grid[1]:
                part = sum(weight(grid, lot) for lot in found if line[0] in lot)
                self.assertEqual(fraction(part_in_trees(grid, line[0])), part / whole)

    def test_sums_over_what_trees_tells(self):
        for grid in tried(34, 40):
            if len(islands_of(grid)) == 1:
                found = trees(grid)
                whole = sum(weight(grid, names) for names in found)
                self.assertEqual(fraction(tree_weight(grid)), whole)
                for line in grid[1]:
                    part = sum(weight(grid, names) for names in found if line[0] in names)
                    self.assertEqual(fraction(part_in_trees(grid, line[0])), part / whole)

    def test_names_that_are_none(self):
        for name in ("a", "zzz") + WRONG:
            with self.assertRaises(BadName):
                part_in_trees(TRIANGLE, name)


class Reactances(unittest.TestCase):
    def test_against_reactance(self):
        for grid in some_grids(35, 25):
            for one in grid[0]:
                for other in grid[0]:
                    if any(one in island and other in island for island in islands_of(grid)):
                        self.assertEqual(reactance_by_trees(grid, one, other), reactance(grid, one, other))
                    else:
                        with self.assertRaises(BadInjections):
                            reactance_by_trees(grid, one, other)

    def test_by_hand(self):
        self.assertEqual(reactance_by_trees(SINGLE, "a", "a"), (0, 1))
        self.assertEqual(reactance_by_trees(TRIANGLE, "a", "c"), (2, 3))
        self.assertEqual(reactance_by_trees(MIXED, "q", "p"), (20, 9))

    def test_names_that_are_none(self):
        for name in ("x", "zzz") + WRONG:
            for one, other in ((name, "a"), ("a", name), (name, name)):
                with self.assertRaises(BadName):
                    reactance_by_trees(MIXED, one, other)
        with self.assertRaises(BadName):
            reactance_by_trees(MIXED, "p", "x")


class Sums(unittest.TestCase):
    def test_nodes_less_islands(self):
        for grid in some_grids(36, 60):
            self.assertEqual(sum_over_lines(grid), ratio(len(grid[0]) - len(islands_of(grid))))

    def test_is_the_sum_of_parts(self):
        for grid in some_grids(37, 10):
            parts = [fraction(part_in_trees(grid, line[0])) for line in grid[1]]
            self.assertEqual(fraction(sum_over_lines(grid)), sum(parts))

    def test_a_line_by_itself(self):
        for line in TRIANGLE[1]:
            left = lacking(TRIANGLE, (line[0],))
            self.assertEqual(sum_over_lines(left), (2, 1))


if __name__ == "__main__":
    unittest.main()
