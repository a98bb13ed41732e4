"""Point 1: any value for any argument, the error of the leftmost wrong one, and nothing that is changed."""

import unittest
from copy import deepcopy

from tests.support import TRIANGLE, WRONG, ratios
from wattkeep import (
    anyneeds, cascades, curves, dispatch, drills, falls, fitting, flows, grids, gridtexts, hours, market, meters, offers,
    programs, ready, safe, sheets, shedding, starts, switching, systems, trees,
)
from wattkeep.desk import Desk
from wattkeep.errors import (
    BadGrid, BadHours, BadInjections, BadLine, BadMeters, BadName, BadNumber, BadOffers, BadPlan, BadProgram, BadStarts,
    BadStores, BadTable, Bridge,
)
from wattkeep.room import Room

TABLE = (ratios(1, 2), ratios(3, 5))
PROGRAM = (ratios(-1, 2), (ratios(2, 1),), ratios(3))
INJECT = ratios(3, 0, -3)
FULL = (TRIANGLE[0], TRIANGLE[1], (("p", "a", 9, 1),), (("n", "b", 5, 50),))
PLAN = (ratios(5), ratios(0))
OVER = (3, 2)
OFFERS = ((("w", "a", "b", 2, 3), 20),)
CURVE = (ratios(0, 9, 0, 1),)
METERS = (("flow", "x", (3, 1)),)
PAPER = (ratios(1, 1, 1), ratios(0, 0, 0))
TEXT = "node a\nplant p a 9 1"
SHEET = "made p is 5\nprice a is 1"
HOURS = (((5,), (3,)), (("s", "a", 9, 4, 2),), (7,))



def log_of(grid):
    return Room(grid).log


def fall_in(grid, name):
    room = Room(grid)
    room.fall(name)
    return room.log


def back_in(grid, name):
    room = Room(grid)
    room.fall("x")
    room.back(name)
    return room.log


def need_in(grid, name, amount):
    room = Room(grid)
    room.need(name, amount)
    return room.log


def if_falls_in(grid, name):
    return Room(grid).if_falls(name)


def read_at(text):
    return Desk().read(text)


# Each function with arguments that are right and, for each, the error that is named with it.
CALLS = (
    (systems.rank, (TABLE,), (BadTable,)),
    (systems.solved, (TABLE, ratios(1, 2)), (BadTable, BadTable)),
    (systems.inverse, (TABLE,), (BadTable,)),
    (grids.islands, (TRIANGLE,), (BadGrid,)),
    (grids.bridges, (TRIANGLE,), (BadGrid,)),
    (grids.fallen, (TRIANGLE, ("x",)), (BadGrid, BadName)),
    (grids.rings, (TRIANGLE,), (BadGrid,)),
    (flows.flows, (TRIANGLE, INJECT), (BadGrid, BadInjections)),
    (flows.angles, (TRIANGLE, INJECT), (BadGrid, BadInjections)),
    (flows.losses, (TRIANGLE, INJECT), (BadGrid, BadInjections)),
    (flows.sent, (TRIANGLE, "a", "b"), (BadGrid, BadName, BadName)),
    (flows.reactance, (TRIANGLE, "a", "b"), (BadGrid, BadName, BadName)),
    (flows.shares, (TRIANGLE, "x"), (BadGrid, BadName)),
    (trees.trees, (TRIANGLE,), (BadGrid,)),
    (trees.tree_weight, (TRIANGLE,), (BadGrid,)),
    (trees.part_in_trees, (TRIANGLE, "x"), (BadGrid, BadName)),
    (trees.reactance_by_trees, (TRIANGLE, "a", "b"), (BadGrid, BadName, BadName)),
    (trees.sum_over_lines, (TRIANGLE,), (BadGrid,)),
    (falls.factors, (TRIANGLE, "x"), (BadGrid, BadName)),
    (falls.behind_fall, (TRIANGLE, INJECT, "x"), (BadGrid, BadInjections, BadName)),
    (falls.behind_falls, (TRIANGLE, INJECT, ("x",)), (BadGrid, BadInjections, BadName)),
    (programs.best, (PROGRAM,), (BadProgram,)),
    (programs.shows_best, (PROGRAM, ("none", ratios(1))), (BadProgram, None)),
    (dispatch.is_plan, (FULL, PLAN), (BadGrid, None)),
    (dispatch.flows_of, (FULL, PLAN), (BadGrid, BadPlan)),
    (dispatch.cost_of, (FULL, PLAN), (BadGrid, BadPlan)),
    (dispatch.holds, (FULL, PLAN), (BadGrid, BadPlan)),
    (dispatch.cheapest, (FULL,), (BadGrid,)),
    (dispatch.shows_cheapest, (FULL, ("none", ())), (BadGrid, None)),
    (shedding.lost, (FULL, PLAN), (BadGrid, BadPlan)),
    (shedding.least_shed, (FULL,), (BadGrid,)),
    (shedding.shows_least_shed, (FULL, (PLAN, ())), (BadGrid, None)),
    (shedding.best_plan, (FULL,), (BadGrid,)),
    (shedding.shows_best_plan, (FULL, (PLAN, (), (0, 1), ())), (BadGrid, None)),
    (safe.is_safe, (FULL, PLAN, ("x",), OVER), (BadGrid, BadPlan, BadName, BadNumber)),
    (safe.safe_plan, (FULL, ("x",), OVER), (BadGrid, BadName, BadNumber)),
    (safe.shows_safe_plan, (FULL, ("x",), OVER, ("none", ())), (BadGrid, BadName, BadNumber, None)),
    (safe.mended, (FULL, PLAN, "x", (3,)), (BadGrid, BadPlan, BadName, BadNumber)),
    (safe.shows_mended, (FULL, PLAN, "x", (3,), (PLAN, ())), (BadGrid, BadPlan, BadName, BadNumber, None)),
    (safe.behind_each, (FULL, PLAN, (3,)), (BadGrid, BadPlan, BadNumber)),
    (ready.is_ready, (FULL, PLAN, OVER), (BadGrid, BadPlan, BadNumber)),
    (ready.ready_plan, (FULL, OVER), (BadGrid, BadNumber)),
    (ready.shows_ready_plan, (FULL, OVER, (PLAN, (), (0, 1), ())), (BadGrid, BadNumber, None)),
    (ready.price_of_ready, (FULL, OVER), (BadGrid, BadNumber)),
    (cascades.left_behind, (FULL, ("x",), PLAN), (BadGrid, BadName, BadPlan)),
    (cascades.served, (FULL, PLAN), (BadGrid, BadPlan)),
    (cascades.cascade, (FULL, PLAN), (BadGrid, BadPlan)),
    (starts.cheapest_on, (FULL, (20,)), (BadGrid, BadStarts)),
    (starts.shows_cheapest_on, (FULL, (20,), ((True,), ())), (BadGrid, BadStarts, None)),
    (switching.best_off, (FULL, 1), (BadGrid, BadNumber)),
    (switching.shows_best_off, (FULL, 1, ((), ())), (BadGrid, BadNumber, None)),
    (switching.hurtful, (FULL,), (BadGrid,)),
    (offers.best_build, (FULL, OFFERS, 20), (BadGrid, BadOffers, BadNumber)),
    (offers.shows_best_build, (FULL, OFFERS, 20, ((), 0, ())), (BadGrid, BadOffers, BadNumber, None)),
    (anyneeds.surely, (FULL, (2,)), (BadGrid, BadHours)),
    (anyneeds.shows_surely, (FULL, (2,), (True, ())), (BadGrid, BadHours, None)),
    (anyneeds.worst, (FULL, (2,)), (BadGrid, BadHours)),
    (anyneeds.shows_worst, (FULL, (2,), ((0, 1), (2,), ())), (BadGrid, BadHours, None)),
    (curves.cost_curve, (FULL, "n", 9), (BadGrid, BadName, BadNumber)),
    (curves.cost_at, (CURVE, (2, 1)), (BadNumber, BadNumber)),
    (meters.state, (FULL, METERS), (BadGrid, BadMeters)),
    (meters.told_flows, (FULL, METERS), (BadGrid, BadMeters)),
    (meters.needed, (FULL, METERS), (BadGrid, BadMeters)),
    (meters.fewest_wrong, (FULL, METERS), (BadGrid, BadMeters)),
    (fitting.fitted, (FULL, METERS, (3,)), (BadGrid, BadMeters, BadMeters)),
    (market.settlement, (FULL, PLAN, PAPER), (BadGrid, BadPlan, BadPlan)),
    (market.gains, (FULL, PLAN, PAPER), (BadGrid, BadPlan, BadPlan)),
    (market.rights_worth, (FULL, PAPER, INJECT), (BadGrid, BadPlan, BadInjections)),
    (market.are_borne, (FULL, INJECT), (BadGrid, BadInjections)),
    (drills.drills, (FULL, PLAN, 1), (BadGrid, BadPlan, BadNumber)),
    (drills.weakest, (FULL, PLAN, 1), (BadGrid, BadPlan, BadNumber)),
    (drills.falls_with, (FULL, PLAN, "n", 1), (BadGrid, BadPlan, BadName, BadNumber)),
    (gridtexts.write_grid, (FULL,), (BadGrid,)),
    (gridtexts.read_grid, (TEXT,), (BadLine,)),
    (sheets.sheet_of, (FULL, PLAN, PAPER), (BadGrid, BadPlan, BadPlan)),
    (sheets.judge_sheet, (FULL, SHEET), (BadGrid, BadLine)),
    (log_of, (FULL,), (BadGrid,)),
    (fall_in, (FULL, "x"), (BadGrid, BadName)),
    (back_in, (FULL, "x"), (BadGrid, BadName)),
    (need_in, (FULL, "n", 9), (BadGrid, BadName, BadNumber)),
    (if_falls_in, (FULL, "x"), (BadGrid, BadName)),
    (read_at, (TEXT,), (BadLine,)),
    (hours.hours_plan, (FULL, *HOURS), (BadGrid, BadHours, BadStores, BadHours)),
    (hours.shows_hours_plan, (FULL, *HOURS, ("none", ())), (BadGrid, BadHours, BadStores, BadHours, None)),
)

# Integers among WRONG that are right where an integer stands.
RIGHT_INTEGERS = {
    (switching.best_off, 1): (0,), (switching.shows_best_off, 1): (0,), (offers.best_build, 2): (0, 7),
    (offers.shows_best_build, 2): (0, 7), (curves.cost_curve, 2): (0, 7), (need_in, 2): (0, 7),
}


def wrong_for(function, at):
    """Return the values that are wrong for an argument."""
    right = RIGHT_INTEGERS.get((function, at), ())
    return [value for value in WRONG if isinstance(value, bool) or not isinstance(value, int) or value not in right]


def put(args, at, value):
    return args[:at] + (value,) + args[at + 1:]


class Arguments(unittest.TestCase):
    def raised(self, function, args):
        try:
            told = function(*args)
        except Exception as error:
            return error.__class__
        self.assertIn(told, (True, False))
        return None

    def test_every_wrong_kind_gets_its_error(self):
        for function, args, errors in CALLS:
            for at, error in enumerate(errors):
                for value in wrong_for(function, at):
                    told = self.raised(function, put(args, at, value))
                    self.assertIs(told, error, (function.__name__, at, value))

    def test_the_leftmost_of_two(self):
        for function, args, errors in CALLS:
            for first in range(len(args)):
                for second in range(first + 1, len(args)):
                    for value in wrong_for(function, first):
                        wrong = put(put(args, first, value), second, value)
                        told = self.raised(function, wrong)
                        self.assertIs(told, errors[first], (function.__name__, first, second, value))

    def test_errors_that_hang_on_more_arguments_come_last(self):
        chain = (("a", "b", "c"), (("x", "a", "b", 2, 9),), (), ())
        for function, args, error in (
            (falls.factors, (chain, "x"), Bridge), (falls.factors, (chain, "a"), BadName),
            (falls.behind_fall, (chain, ratios(1, -1, 0), "x"), Bridge),
            (falls.behind_fall, (chain, ratios(1, -1, 1), "x"), BadInjections),
            (falls.behind_falls, (chain, ratios(1, -1, 0), ("x", "y")), BadName),
            (falls.behind_falls, (chain, ratios(1, -1, 0), ("x",)), Bridge),
            (flows.sent, (chain, "a", "c"), BadInjections), (flows.sent, (chain, "a", "x"), BadName),
            (flows.reactance, (chain, "c", "b"), BadInjections), (trees.reactance_by_trees, (chain, "a", "c"), BadInjections),
            (safe.is_safe, (chain, ((), ()), ("x",), None), Bridge), (safe.is_safe, (chain, ((), ()), ("x", "y"), None), BadName),
            (safe.is_safe, (chain, (), ("x",), None), BadPlan), (safe.safe_plan, (chain, ("x",), None), Bridge),
            (safe.shows_safe_plan, (chain, ("x", "x"), (1, 1), None), Bridge),
            (cascades.left_behind, (chain, ("y",), None), BadName), (cascades.left_behind, (chain, ("x",), None), BadPlan),
        ):
            self.assertIs(self.raised(function, args), error)

    def test_arguments_are_not_changed(self):
        for function, args, errors in CALLS:
            lots = [args] + [put(args, at, value) for at in range(len(args)) for value in WRONG]
            for lot in lots:
                kept = deepcopy(lot)
                try:
                    function(*lot)
                except (*{error for error in errors if error},):
                    pass
                self.assertEqual(repr(lot), repr(kept))

    def test_equal_arguments_have_equal_answers(self):
        for function, args, _ in CALLS:
            told = function(*args)
            again = function(*deepcopy(args))
            self.assertEqual(told, again)
            if isinstance(told, list):
                self.assertIsNot(told, again)

    def test_returned_lists_are_new(self):
        found = trees.trees(TRIANGLE)
        found.append("changed")
        self.assertEqual(len(trees.trees(TRIANGLE)), 3)
        room = Room(FULL)
        room.fall("x")
        room.log.append("changed")
        self.assertEqual(room.log, [("fall", "x")])

    def test_what_is_said_may_be_anything(self):
        for value in WRONG:
            self.assertEqual(Desk().say(value), "what")

    def test_is_grid_of_any_value(self):
        for value in WRONG:
            self.assertIs(grids.is_grid(value), False)


if __name__ == "__main__":
    unittest.main()
