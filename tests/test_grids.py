import unittest
from random import Random

from tests.support import CHAIN, MIXED, SINGLE, TRIANGLE, TWINS, WRONG, islands_of, lacking, some_grids
from wattkeep import dispatch, falls, flows, grids, trees
from wattkeep.errors import BadGrid, BadName
from wattkeep.grids import bridges, fallen, is_grid, islands, rings

NODES = ("a", "b")
LINE = ("x", "a", "b", 1, 5)
PLANT = ("p", "a", 9, 1)
LOAD = ("n", "b", 5, 50)


def with_line(*items):
    return (NODES, (items,), (), ())


def with_plant(*items):
    return (NODES, (), (items,), ())


def with_load(*items):
    return (NODES, (), (), (items,))


def many(sign, count, *items):
    return tuple((sign + str(at), *items) for at in range(count))


GOOD = (
    SINGLE, TRIANGLE, TWINS, CHAIN, MIXED,
    (NODES, (LINE,), (PLANT,), (LOAD,)),
    (tuple("abcdefgh"), (), (), ()),
    (NODES, many("x", 14, "a", "b", 1, 1), (), ()),
    (NODES, (), many("p", 8, "a", 1, 1), ()),
    (NODES, (), (), many("n", 8, "b", 1, 1)),
    (("a", "z9999999"), (), (), ()), (("z",), (), (), ()), (("a0", "aa", "a"), (), (), ()),
    with_line("x", "a", "b", 1, 0), with_line("x", "b", "a", 99, 999), with_line("abcdefgh", "a", "b", 1, 0),
    with_plant("p", "a", 0, 0), with_plant("p", "b", 999, 999), with_plant("a2345678", "b", 999, 999),
    with_load("n", "a", 0, 0), with_load("n", "b", 999, 9999), with_load("a2345678", "b", 999, 9999),
)

BAD = (
    ((), (), (), ()),
    (tuple("abcdefghi"), (), (), ()),
    (NODES, many("x", 15, "a", "b", 1, 1), (), ()),
    (NODES, (), many("p", 9, "a", 1, 1), ()),
    (NODES, (), (), many("n", 9, "b", 1, 1)),
    (NODES, (), ()), (NODES, (), (), (), ()), [NODES, (), (), ()], (list(NODES), (), (), ()),
    (NODES, [], (), ()), (NODES, (), [], ()), (NODES, (), (), []), (NODES, {}, (), ()), (NODES, None, (), ()),
    ("ab", (), (), ()), ({"a": 1}, (), (), ()), (NODES, "", (), ()), (NODES, (), "", ()), (NODES, (), (), ""),
    with_line("x", "a", "a", 1, 5), with_line("x", "a", "c", 1, 5), with_line("x", "c", "b", 1, 5),
    with_line("x", "a", "x", 1, 5), with_line("x", ["a"], "b", 1, 5), with_line("x", "a", None, 1, 5),
    with_line("x", "a", "b", 0, 5), with_line("x", "a", "b", 100, 5), with_line("x", "a", "b", -1, 5),
    with_line("x", "a", "b", 1, -1), with_line("x", "a", "b", 1, 1000), with_line("x", "a", "b", True, 5),
    with_line("x", "a", "b", 1, False), with_line("x", "a", "b", (1, 1), 5), with_line("x", "a", "b", "1", 5),
    with_line("x", "a", "b", 1), with_line("x", "a", "b", 1, 5, 5), with_line("", "a", "b", 1, 5),
    with_line("abcdefghi", "a", "b", 1, 5), with_line(None, "a", "b", 1, 5), with_line(["x"], "a", "b", 1, 5),
    (NODES, (list(LINE),), (), ()), (NODES, ("x",), (), ()), (NODES, (LINE, ()), (), ()),
    with_plant("p", "a", -1, 1), with_plant("p", "a", 1000, 1), with_plant("p", "a", 9, -1),
    with_plant("p", "a", 9, 1000), with_plant("p", "c", 9, 1), with_plant("p", "p", 9, 1),
    with_plant("p", "a", True, 1), with_plant("p", "a", 9, False), with_plant("p", "a", 9),
    with_plant("p", "a", 9, 1, 1), with_plant("p", {}, 9, 1), with_plant("P", "a", 9, 1),
    (NODES, (), (list(PLANT),), ()), (NODES, (), (PLANT, None), ()),
    with_load("n", "a", -1, 1), with_load("n", "a", 1000, 1), with_load("n", "a", 9, -1),
    with_load("n", "a", 9, 10000), with_load("n", "c", 9, 1), with_load("n", "a", True, 1),
    with_load("n", "a", 9, False), with_load("n", "a", 9), with_load("n", "a", 9, 1, 1), with_load("9n", "a", 9, 1),
    (NODES, (), (), (list(LOAD),)), (NODES, (), (), (LOAD, "n")),
    (("a", "a"), (), (), ()), (NODES, (LINE, LINE), (), ()), (NODES, (), (PLANT, PLANT), ()),
    (NODES, (), (), (LOAD, LOAD)), with_line("a", "a", "b", 1, 5), with_plant("b", "a", 9, 1),
    with_load("b", "a", 9, 1), (NODES, (LINE,), (("x", "a", 9, 1),), ()), (NODES, (LINE,), (), (("x", "a", 9, 1),)),
    (NODES, (), (PLANT,), (("p", "a", 9, 1),)),
)

BAD_NAMES = ("", "A", "9", "1a", "a_", "a b", " a", "a\n", "\u00e4", "a\u00e9", "a\u0661", "abcdefghi", 1, None, True,
             ("a",), ["a"], {"a": 1})


class IsGrid(unittest.TestCase):
    def test_grids(self):
        for grid in GOOD:
            self.assertIs(is_grid(grid), True, grid)

    def test_values_that_are_no_grids(self):
        for value in BAD + WRONG:
            self.assertIs(is_grid(value), False, value)

    def test_names(self):
        for name in BAD_NAMES:
            for value in ((("b", name), (), (), ()), with_line(name, "a", "b", 1, 5), with_plant(name, "a", 9, 1),
                          with_load(name, "a", 9, 1)):
                self.assertIs(is_grid(value), False, value)

    def test_bad_grid_from_every_function(self):
        calls = (
            lambda grid: islands(grid), lambda grid: bridges(grid), lambda grid: fallen(grid, ()),
            lambda grid: rings(grid), lambda grid: flows.flows(grid, ()), lambda grid: flows.angles(grid, ()),
            lambda grid: flows.losses(grid, ()), lambda grid: flows.sent(grid, "a", "a"),
            lambda grid: flows.reactance(grid, "a", "a"), lambda grid: flows.shares(grid, "x"),
            lambda grid: trees.trees(grid), lambda grid: trees.tree_weight(grid),
            lambda grid: trees.part_in_trees(grid, "x"), lambda grid: trees.reactance_by_trees(grid, "a", "a"),
            lambda grid: trees.sum_over_lines(grid), lambda grid: falls.factors(grid, "x"),
            lambda grid: falls.behind_fall(grid, (), "x"), lambda grid: falls.behind_falls(grid, (), ()),
            lambda grid: dispatch.is_plan(grid, ()), lambda grid: dispatch.flows_of(grid, ()),
            lambda grid: dispatch.cost_of(grid, ()), lambda grid: dispatch.holds(grid, ()),
            lambda grid: dispatch.cheapest(grid), lambda grid: dispatch.shows_cheapest(grid, ()),
        )
        for grid in BAD + WRONG:
            for at, call in enumerate(calls):
                with self.assertRaises(BadGrid, msg=(at, grid)):
                    call(grid)


class Islands(unittest.TestCase):
    def test_by_hand(self):
        self.assertEqual(islands(SINGLE), (("a",),))
        self.assertEqual(islands(TRIANGLE), (("a", "b", "c"),))
        self.assertEqual(islands(MIXED), (("a", "b", "c", "d"), ("p", "q"), ("s",)))
        self.assertEqual(islands((("c", "a", "b"), (), (), ())), (("c",), ("a",), ("b",)))
        late = (("a", "b", "c", "d"), (("x", "d", "c", 1, 1), ("y", "d", "a", 1, 1)), (), ())
        self.assertEqual(islands(late), (("a", "c", "d"), ("b",)))

    def test_against_a_search(self):
        for grid in some_grids(11, 80):
            self.assertEqual(islands(grid), islands_of(grid))


class Bridges(unittest.TestCase):
    def test_by_hand(self):
        self.assertEqual(bridges(SINGLE), ())
        self.assertEqual(bridges(TRIANGLE), ())
        self.assertEqual(bridges(TWINS), ())
        self.assertEqual(bridges(CHAIN), ("x", "y"))
        self.assertEqual(bridges(MIXED), ("u",))

    def test_against_islands(self):
        for grid in some_grids(12, 60):
            count = len(islands_of(grid))
            expected = tuple(
                line[0] for line in grid[1] if len(islands_of(lacking(grid, (line[0],)))) > count
            )
            self.assertEqual(bridges(grid), expected)


class Fallen(unittest.TestCase):
    GRID = (NODES, (LINE, ("y", "b", "a", 2, 7), ("z", "a", "b", 3, 8)), (PLANT,), (LOAD,))

    def test_by_hand(self):
        lines = self.GRID[1]
        for names, left in (
            ((), lines), (("x",), lines[1:]), (("z", "x"), lines[1:2]), (("y", "y"), (lines[0], lines[2])),
            (("x", "y", "z"), ()), (("z", "x", "y", "x"), ()),
        ):
            self.assertEqual(fallen(self.GRID, names), (NODES, left, (PLANT,), (LOAD,)))

    def test_names_that_are_none(self):
        for names in (("a",), ("p",), ("n",), ("x", "w"), ("x", None), (["x"],), (("x",),), ["x"], "x", "", None, {},
                      {"x": 1}, (True,), 0, []):
            with self.assertRaises(BadName, msg=names):
                fallen(self.GRID, names)


class Rings(unittest.TestCase):
    def judge(self, grid):
        found = rings(grid)
        self.assertIsInstance(found, tuple)
        self.assertEqual(len(found), len(grid[1]) - len(grid[0]) + len(islands_of(grid)))
        ends = {line[0]: (line[1], line[2]) for line in grid[1]}
        for at, ring in enumerate(found):
            self.assertIsInstance(ring, tuple)
            self.assertGreater(len(ring), 1)
            steps = []
            for name, way in ring:
                self.assertIn(way, (1, -1))
                steps.append(ends[name][::way])
            for step, behind in zip(steps, steps[1:] + steps[:1]):
                self.assertEqual(step[1], behind[0])
            self.assertEqual(len({name for name, _ in ring}), len(ring))
            others = [name for place, other in enumerate(found) if place != at for name, _ in other]
            self.assertTrue(any(name not in others for name, _ in ring))

    def test_by_hand(self):
        self.assertEqual(rings(SINGLE), ())
        self.assertEqual(rings(CHAIN), ())
        self.assertEqual(len(rings(TRIANGLE)), 1)
        self.assertEqual(len(rings(TWINS)), 2)
        self.assertEqual(len(rings(MIXED)), 2)

    def test_come_back_and_have_lines_of_their_own(self):
        for grid in some_grids(13, 80):
            self.judge(grid)

    def test_equal_arguments_have_equal_answers(self):
        for grid in some_grids(14, 10):
            self.assertEqual(rings(grid), rings(tuple(list(grid))))


class Names(unittest.TestCase):
    def test_signs(self):
        for sign in "abcdefghijklmnopqrstuvwxyz":
            self.assertTrue(grids.is_name(sign))
            self.assertTrue(grids.is_name("q" + sign))
        for sign in "0123456789":
            self.assertFalse(grids.is_name(sign))
            self.assertTrue(grids.is_name("q" + sign))
        random = Random(15)
        for _ in range(300):
            sign = chr(random.randint(0, 70000))
            self.assertEqual(grids.is_name("q" + sign), sign in "abcdefghijklmnopqrstuvwxyz0123456789")


if __name__ == "__main__":
    unittest.main()
