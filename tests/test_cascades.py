import unittest
from fractions import Fraction
from random import Random

from tests.sums import is_some_plan, some_plan
from tests.support import (
    LOOP, PARALLEL, SINGLE, WRONG, fraction, fractions, islands_of, lacking, ratio, ratios, some_full_grid,
    some_joined_grid,
)
from wattkeep.cascades import cascade, left_behind, served
from wattkeep.dispatch import flows_of, holds
from wattkeep.errors import BadGrid, BadName, BadPlan
from wattkeep.shedding import best_plan

# A chain of three nodes with plants at both ends and loads at all.
ROW = (
    ("a", "b", "c"), (("x", "a", "b", 1, 9), ("y", "b", "c", 1, 9)), (("p", "a", 6, 1), ("q", "a", 4, 2), ("r", "c", 5, 1)),
    (("n", "b", 6, 10), ("m", "c", 4, 20), ("k", "b", 3, 30)),
)
ROW_PLAN = (ratios(4, 2, 2), ratios(2, 2, 1))
# Two lines side by side and a third one behind them, each weaker than the one ahead of it.
STEPS = (
    ("a", "b"), (("x", "a", "b", 1, 4), ("y", "a", "b", 2, 4), ("z", "a", "b", 3, 5)), (("p", "a", 12, 1),),
    (("n", "b", 12, 7),),
)


def shared_by_islands(grid, plan):
    """Share a plan on a grid, island by island, with Fractions."""
    made, shed = fractions(plan[0]), fractions(plan[1])
    given = [load[2] - part for load, part in zip(grid[3], shed)]
    for island in islands_of(grid):
        plants = [at for at, plant in enumerate(grid[2]) if plant[1] in island]
        loads = [at for at, load in enumerate(grid[3]) if load[1] in island]
        supply, demand = sum(made[at] for at in plants), sum(given[at] for at in loads)
        least = min(supply, demand)
        for at in plants:
            made[at] = made[at] * least / supply if supply else made[at]
        for at in loads:
            given[at] = given[at] * least / demand if demand else given[at]
    return (ratios(*made), ratios(*[load[2] - part for load, part in zip(grid[3], given)]))


def rounds_by_hand(grid, plan):
    """Return the rounds of a cascade, told another way than the program's: by the names that have fallen."""
    down, found = (), []
    while True:
        left = lacking(grid, down)
        over = tuple(line[0] for line, flow in zip(left[1], fractions(flows_of(left, plan))) if abs(flow) > line[4])
        if not over:
            return tuple(found)
        down += over
        plan = shared_by_islands(lacking(grid, down), plan)
        found.append((over, plan))


class LeftBehind(unittest.TestCase):
    def test_an_island_that_makes_too_much_and_one_that_makes_too_little(self):
        # Without y: a and b make 6 and serve 6; c makes 2 and serves 2.
        left, plan = left_behind(ROW, ("y",), ROW_PLAN)
        self.assertEqual((left, plan), (lacking(ROW, ("y",)), ROW_PLAN))
        # Without x: a makes 6 for nobody, b and c make 2 and serve 8, a fourth of which is left.
        left, plan = left_behind(ROW, ("x",), ROW_PLAN)
        self.assertEqual(left, lacking(ROW, ("x",)))
        self.assertEqual(plan, (ratios(0, 0, 2), ratios(5, Fraction(7, 2), Fraction(5, 2))))
        # Without both: b has no plant and serves nothing, c stays as it was.
        self.assertEqual(left_behind(ROW, ("x", "y"), ROW_PLAN)[1], (ratios(0, 0, 2), ratios(6, 2, 3)))

    def test_one_ratio_for_all(self):
        # q and p make 6 and 2 of 8, of which b and its load lose 3.
        grid = (("a", "b"), (("x", "a", "b", 1, 9),), (("p", "a", 9, 1), ("q", "a", 9, 5)), (("n", "a", 6, 3), ("m", "b", 4, 5)))
        plan = (ratios(6, 2), ratios(1, 1))
        self.assertEqual(left_behind(grid, ("x",), plan)[1], (ratios(Fraction(15, 4), Fraction(5, 4)), ratios(1, 4)))
        turned = (("a", "b"), grid[1], (("p", "a", 9, 1), ("q", "b", 9, 5)), (("n", "a", 6, 3), ("m", "a", 4, 5)))
        plan = (ratios(2, 6), ratios(0, 2))
        # n and m get 6 and 2 of 8, and then a fourth of that.
        self.assertEqual(
            left_behind(turned, ("x",), plan)[1], (ratios(2, 0), ratios(Fraction(9, 2), Fraction(7, 2)))
        )

    def test_islands_without_plants_or_loads(self):
        lines = (("x", "a", "b", 1, 9), ("y", "b", "c", 1, 9), ("z", "c", "d", 1, 9))
        grid = (("a", "b", "c", "d"), lines, (("p", "a", 9, 1),), (("n", "b", 6, 3), ("m", "d", 3, 1)))
        plan = (ratios(9), ratios(0, 0))
        for names, made, shed in (
            ((), 9, (0, 0)), (("x",), 0, (6, 3)), (("y",), 6, (0, 3)), (("z",), 6, (0, 3)), (("x", "z"), 0, (6, 3)),
            (("y", "z"), 6, (0, 3)), (("x", "y", "z"), 0, (6, 3)),
        ):
            for order in (names, names[::-1], names + names):
                left, now = left_behind(grid, order, plan)
                self.assertEqual((left, now), (lacking(grid, names), (ratios(made), ratios(*shed))))
        nothing = (ratios(0), ratios(6, 3))
        self.assertEqual(left_behind(grid, ("x", "y", "z"), nothing)[1], nothing)
        self.assertEqual(left_behind(SINGLE, (), ((), ())), (SINGLE, ((), ())))

    def test_against_another_way(self):
        random = Random(101)
        changed = 0
        for _ in range(150):
            grid = some_full_grid(random)
            plan = some_plan(random, grid)
            names = tuple(line[0] for line in grid[1] if random.random() < 0.5)
            left, now = left_behind(grid, names, plan)
            changed += now != plan
            self.assertEqual((left, now), (lacking(grid, names), shared_by_islands(lacking(grid, names), plan)))
            self.assertTrue(is_some_plan(left, now))
        self.assertGreater(changed, 20)

    def test_a_loop_behind_its_bridge(self):
        plan = (ratios(6, 5, 0), ratios(0, 0))
        # d has no plant, and the loop makes 11 for 6.
        self.assertEqual(left_behind(LOOP, ("w",), plan)[1], (ratios(Fraction(36, 11), Fraction(30, 11), 0), ratios(0, 5)))

    def test_wrong_arguments(self):
        for names in WRONG + ("x", ["x"], ("a",), ("x", "n"), ("x", ("y",)), {"x": 1}):
            with self.assertRaises(BadName, msg=names):
                left_behind(ROW, names, ROW_PLAN)
            # The names' error comes ahead of the plan's.
            with self.assertRaises(BadName, msg=names):
                left_behind(ROW, names, None)
            with self.assertRaises(BadGrid):
                left_behind(None, names, None)
        for plan in WRONG + ((ratios(4, 2, 2), ratios(2, 2, 0)),):
            with self.assertRaises(BadPlan, msg=plan):
                left_behind(ROW, ("x",), plan)


class Served(unittest.TestCase):
    def test_by_hand(self):
        self.assertEqual(served(ROW, ROW_PLAN), (8, 1))
        self.assertEqual(served(SINGLE, ((), ())), (0, 1))
        self.assertEqual(served(PARALLEL, ((ratio(1, 3), ratio(0)), (ratio(14, 3),))), (1, 3))

    def test_the_sum_is_what_is_made(self):
        random = Random(102)
        for _ in range(60):
            grid = some_full_grid(random)
            plan = some_plan(random, grid)
            needs = sum(load[2] for load in grid[3])
            self.assertEqual(fraction(served(grid, plan)), needs - sum(fractions(plan[1])))
            self.assertEqual(fraction(served(grid, plan)), sum(fractions(plan[0])))

    def test_wrong_arguments(self):
        for plan in WRONG:
            for call in (served, cascade):
                with self.assertRaises(BadPlan, msg=plan):
                    call(ROW, plan)
                with self.assertRaises(BadGrid):
                    call((), plan)


class Cascade(unittest.TestCase):
    def test_none_at_a_plan_that_holds(self):
        self.assertEqual(cascade(ROW, ROW_PLAN), ())
        # Just the limit does not trip.
        self.assertEqual(cascade(PARALLEL, (ratios(5, 0), ratios(0))), ())
        full = PARALLEL[:3] + ((("n", "b", 6, 50),),)
        self.assertEqual(cascade(full, (ratios(6, 0), ratios(0))), ())
        self.assertEqual(cascade(SINGLE, ((), ())), ())
        random = Random(103)
        for _ in range(60):
            grid = some_full_grid(random)
            self.assertEqual(cascade(grid, best_plan(grid)[0]), ())

    def test_lines_side_by_side_trip_at_once(self):
        grid = PARALLEL[:3] + ((("n", "b", 7, 50),),)
        for made, rounds in (
            ((7, 0), ((("x", "y"), (ratios(0, 0), ratios(7))),)), ((Fraction(13, 2), Fraction(1, 2)),
             ((("x", "y"), (ratios(0, Fraction(1, 2)), ratios(Fraction(13, 2)))),)), ((6, 1), ()),
        ):
            self.assertEqual(cascade(grid, (ratios(*made), ratios(0))), rounds)

    def test_more_rounds(self):
        # 12 go over 1, 1/2 and 1/3: x trips alone. Then y, which has 12 * 3/5, and z, whose 12 * 2/5 it could bear.
        told = cascade(STEPS, (ratios(12), ratios(0)))
        self.assertEqual([names for names, _ in told], [("x",), ("y",), ("z",)])
        self.assertEqual([plan for _, plan in told], [(ratios(12), ratios(0))] * 2 + [(ratios(0), ratios(12))])
        # 6 go over them as 36/11, 18/11 and 12/11: none trips.
        self.assertEqual(cascade(STEPS, (ratios(6), ratios(6))), ())
        # 8 go over them as 48/11, 24/11 and 16/11: x trips, then y.
        told = cascade(STEPS, (ratios(8), ratios(4)))
        self.assertEqual([names for names, _ in told], [("x",), ("y",), ("z",)])

    def test_lines_told_the_other_way(self):
        turned = (STEPS[0], tuple((line[0], "b", "a") + line[3:] for line in STEPS[1])) + STEPS[2:]
        for made in range(13):
            plan = (ratios(made), ratios(12 - made))
            self.assertEqual(cascade(turned, plan), cascade(STEPS, plan))

    def test_what_is_shared_may_hold(self):
        # y trips, and behind it c keeps what it makes itself.
        grid = (ROW[0], (("x", "a", "b", 1, 9), ("y", "b", "c", 1, 1)), ROW[2], (("n", "b", 3, 1), ("m", "c", 6, 1)))
        plan = (ratios(6, 1, 2), ratios(0, 0))
        self.assertEqual(cascade(grid, plan), ((("y",), (ratios(Fraction(18, 7), Fraction(3, 7), 2), ratios(0, 4))),))

    def test_against_another_way(self):
        random = Random(104)
        counts = []
        for _ in range(300):
            grid = some_joined_grid(random)
            plan = some_plan(random, grid)
            told = cascade(grid, plan)
            counts.append(min(len(told), 2))
            self.assertEqual(told, rounds_by_hand(grid, plan))
            self.assertEqual(told == (), holds(grid, plan))
            down = ()
            for names, now in told:
                down += names
                self.assertTrue(is_some_plan(lacking(grid, down), now))
            self.assertTrue(holds(lacking(grid, down), told[-1][1] if told else plan))
        for many in range(3):
            self.assertGreater(counts.count(many), 5, counts)

    def test_no_plant_makes_more_and_no_load_is_served_more(self):
        random = Random(105)
        for _ in range(100):
            grid = some_joined_grid(random)
            plan = some_plan(random, grid)
            for _, now in cascade(grid, plan):
                for before, after in zip(fractions(plan[0]), fractions(now[0])):
                    self.assertLessEqual(after, before)
                for before, after in zip(fractions(plan[1]), fractions(now[1])):
                    self.assertGreaterEqual(after, before)
                plan = now


if __name__ == "__main__":
    unittest.main()
