"""The examples that the document's interface shows."""

import unittest

from wattkeep.anyneeds import worst
from wattkeep.cascades import cascade
from wattkeep.curves import cost_curve
from wattkeep.desk import Desk
from wattkeep.dispatch import cheapest
from wattkeep.errors import BadGrid, BadLine, BadProgram, BadTable
from wattkeep.falls import behind_fall
from wattkeep.flows import flows, reactance
from wattkeep.grids import bridges, islands
from wattkeep.gridtexts import read_grid
from wattkeep.market import settlement
from wattkeep.meters import state
from wattkeep.programs import best
from wattkeep.ready import price_of_ready
from wattkeep.room import Room
from wattkeep.shedding import least_shed, lost
from wattkeep.starts import cheapest_on
from wattkeep.switching import hurtful
from wattkeep.systems import inverse, rank, solved
from wattkeep.trees import sum_over_lines, trees

TRIANGLE = (("a", "b", "c"), (("x", "a", "b", 1, 9), ("y", "b", "c", 1, 9), ("z", "a", "c", 1, 9)), (), ())


class Examples(unittest.TestCase):
    def test_systems(self):
        rows = (((1, 1), (1, 1)), ((1, 1), (-1, 1)))
        self.assertEqual(
            [rank(rows), solved(rows, ((3, 1), (1, 1))), inverse(rows)],
            [2, ("one", ((2, 1), (1, 1))), (((1, 2), (1, 2)), ((1, 2), (-1, 2)))],
        )
        with self.assertRaises(BadTable):
            rank(())

    def test_grids(self):
        grid = (("a", "b", "c"), (("x", "a", "b", 1, 5),), (), ())
        self.assertEqual([islands(grid), bridges(grid)], [(("a", "b"), ("c",)), ("x",)])
        with self.assertRaises(BadGrid):
            islands(())

    def test_flows(self):
        self.assertEqual(
            [flows(TRIANGLE, ((3, 1), (0, 1), (-3, 1))), reactance(TRIANGLE, "a", "c")],
            [((1, 1), (1, 1), (2, 1)), (2, 3)],
        )

    def test_trees(self):
        grid = (("a", "b"), (("x", "a", "b", 1, 9), ("y", "a", "b", 2, 9)), (), ())
        self.assertEqual([trees(grid), sum_over_lines(grid)], [[("x",), ("y",)], (1, 1)])

    def test_falls(self):
        self.assertEqual(behind_fall(TRIANGLE, ((3, 1), (0, 1), (-3, 1)), "z"), ((3, 1), (3, 1), (0, 1)))

    def test_programs(self):
        self.assertEqual(best((((-1, 1),), (((2, 1),),), ((3, 1),))), ("best", ((3, 2),), ((1, 2),)))
        with self.assertRaises(BadProgram):
            best(())

    def test_dispatch(self):
        plants = (("p", "a", 9, 1), ("q", "b", 9, 4))
        grid = (("a", "b"), (("x", "a", "b", 1, 3),), plants, (("n", "b", 5, 50),))
        self.assertEqual(
            cheapest(grid), ("plan", (((3, 1), (2, 1)), ((0, 1),)), (((1, 1), (4, 1)), ((3, 1),)))
        )

    def test_shedding(self):
        grid = (("a", "b"), (("x", "a", "b", 1, 3),), (("p", "a", 9, 1),), (("n", "b", 5, 50),))
        plan, paper = least_shed(grid)
        self.assertEqual([plan[1], lost(grid, plan)], [((2, 1),), (100, 1)])

    def test_ready(self):
        lines = (("x", "a", "b", 1, 3), ("y", "a", "b", 1, 3))
        grid = (("a", "b"), lines, (("p", "a", 9, 1), ("q", "b", 9, 4)), (("n", "b", 5, 50),))
        self.assertEqual(price_of_ready(grid, (1, 1)), ((0, 1), (6, 1)))

    def test_cascades(self):
        grid = (("a", "b"), (("x", "a", "b", 1, 3),), (("p", "a", 9, 1),), (("n", "b", 5, 50),))
        self.assertEqual(cascade(grid, (((5, 1),), ((0, 1),))), ((("x",), (((0, 1),), ((5, 1),))),))

    def test_starts(self):
        grid = (("a",), (), (("p", "a", 9, 1), ("q", "a", 9, 2)), (("n", "a", 5, 50),))
        self.assertEqual(cheapest_on(grid, (9, 1))[0], (False, True))

    def test_switching(self):
        lines = (("x", "a", "b", 1, 90), ("y", "b", "c", 1, 90), ("z", "a", "c", 1, 6))
        grid = (("a", "b", "c"), lines, (("p", "a", 60, 1), ("q", "c", 60, 9)), (("n", "c", 20, 99),))
        self.assertEqual(hurtful(grid), (("z", (108, 1), (20, 1)),))

    def test_anyneeds(self):
        grid = (("a",), (), (("p", "a", 4, 1),), (("n", "a", 6, 5),))
        self.assertEqual(worst(grid, (1,))[:2], ((10, 1), (6,)))

    def test_curves(self):
        grid = (("a",), (), (("p", "a", 4, 1), ("q", "a", 9, 3)), (("n", "a", 6, 5),))
        self.assertEqual(
            cost_curve(grid, "n", 10), (((0, 1), (4, 1), (0, 1), (1, 1)), ((4, 1), (10, 1), (4, 1), (3, 1)))
        )

    def test_meters(self):
        grid = (("a", "b"), (("x", "a", "b", 2, 9),), (), ())
        self.assertEqual(state(grid, (("flow", "x", (3, 1)),)), ("one", ((0, 1), (-6, 1))))

    def test_market(self):
        grid = (("a", "b"), (("x", "a", "b", 1, 3),), (("p", "a", 9, 1), ("q", "b", 9, 4)), (("n", "b", 5, 50),))
        self.assertEqual(
            settlement(grid, (((3, 1), (2, 1)), ((0, 1),)), (((1, 1), (4, 1)), ((3, 1),))),
            (((20, 1),), ((3, 1), (8, 1)), (9, 1)),
        )

    def test_gridtexts(self):
        self.assertEqual(read_grid("node a\nload n a 5 50"), (("a",), (), (), (("n", "a", 5, 50),)))
        with self.assertRaises(BadLine) as raised:
            read_grid("knot a")
        self.assertEqual((raised.exception.line, raised.exception.word), (1, 1))

    def test_room(self):
        lines = (("x", "a", "b", 1, 3), ("y", "a", "b", 1, 3))
        room = Room((("a", "b"), lines, (("p", "a", 9, 1),), (("n", "b", 5, 50),)))
        before = room.lost
        room.fall("y")
        self.assertEqual([before, room.lost, room.trips(), room.log], [(0, 1), (100, 1), (), [("fall", "y")]])

    def test_desk(self):
        desk = Desk()
        desk.read("node a\nplant p a 9 2\nload n a 5 50")
        self.assertEqual(
            [desk.say("plan"), desk.say("need n 12"), desk.say("undo")], ["p 5 | -", "lost 150 cost 18", "lost 0 cost 10"]
        )


if __name__ == "__main__":
    unittest.main()
