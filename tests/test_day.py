"""A day in a control room: behind each event the opening promise of point 1, by sums of its own."""

import unittest
from fractions import Fraction

from tests.sums import (
    NO_FALLS, best_in_row, cost_told, injections, is_best, is_cheapest_told, is_safe_plan, loss_of, mosts_of, price_of,
    ring_names,
)
from tests.support import ONE, balances, fraction, fractions, have_angles, islands_of, written
from wattkeep.cascades import cascade, left_behind
from wattkeep.curves import cost_at, cost_curve
from wattkeep.desk import Desk
from wattkeep.dispatch import cheapest, flows_of
from wattkeep.drills import drills
from wattkeep.errors import BadName, BadNumber, NothingDone
from wattkeep.gridtexts import read_grid, write_grid
from wattkeep.market import gains, settlement
from wattkeep.meters import state
from wattkeep.ready import price_of_ready, ready_plan
from wattkeep.room import Room
from wattkeep.sheets import judge_sheet, sheet_of

TEXT = """
node north
node east
node south
node west
node mill
node port

line ne north east 2 30
line es east south 3 22
line sw south west 2 25
line wn west north 4 18
line ns north south 5 12
line em east mill 1 20
line sm south mill 2 14
line wp west port 3 16

plant dam north 60 2
plant coal west 30 7
plant gas mill 25 11
plant oil south 20 19

load town south 24 90
load works mill 18 40
load farm east 9 25
load quay port 10 60
"""
# Each event, or the error of one that cannot be.
DAY = (
    ("need", "town", 15), ("need", "works", 6), ("fall", "ns"), ("need", "works", 31), ("need", "town", 40), ("fall", "em"),
    (BadName, "fall", "em"), ("back", "ns"), (BadName, "back", "ns"), ("fall", "wp"), ("need", "quay", 4), ("undo",), ("back", "em"),
    ("fall", "ne"), ("need", "town", 70), (BadNumber, "need", "town", 1000), ("undo",), ("fall", "es"), ("fall", "sw"), ("back", "wp"),
    ("undo",), ("undo",), ("undo",), ("back", "ne"), ("back", "wp"), ("need", "farm", 0), ("fall", "wn"), ("need", "town", 24),
    ("back", "wn"),
)


class Day(unittest.TestCase):
    def hold_balance(self, grid, plan):
        """Hold that every node is balanced and that no line bears more than it can."""
        flows = flows_of(grid, plan)
        self.assertTrue(balances(grid, injections(grid, plan), flows))
        self.assertTrue(have_angles(grid, flows))
        for line, flow in zip(grid[1], fractions(flows)):
            self.assertLessEqual(abs(flow), line[4])

    def hold_cheapest(self, grid, room):
        """Hold that the plan loses the least and is the cheapest there is, with a paper that anyone can add up."""
        self.assertTrue(is_best(grid, NO_FALLS, best_in_row(room.papers)))
        told = cheapest(grid)
        self.assertTrue(is_cheapest_told(grid, told))
        self.assertEqual(told[0] == "plan", room.lost == (0, 1))
        if told[0] == "plan":
            self.assertEqual(fraction(room.cost), cost_told(grid, told))
            self.hold_sheet(grid, sheet_of(grid, *told[1:]))
            self.assertIs(judge_sheet(grid, sheet_of(grid, room.plan, told[2])), True)
        # No plant would gain more by another amount, and what is paid is what is got and the rents.
        paid, got, rents = settlement(grid, *room.papers[:2])
        self.assertEqual(sum(fractions(paid)), sum(fractions(got)) + fraction(rents))
        self.assertTrue(all(own == most for own, most in gains(grid, *room.papers[:2])))

    def hold_sheet(self, grid, sheet):
        """Hold what a reader sees who knows nothing but sums."""
        rows = [row.split(" ") for row in sheet.split("\n")]
        known = {(row[0], row[1]): [Fraction(word) for word in row[3::2]] for row in rows}
        for (word, _), numbers in known.items():
            if word in ("balance", "pulls"):
                self.assertEqual(sum(numbers), 0)
        for line in grid[1]:
            flow, rent = known[("line", line[0])]
            self.assertTrue(abs(flow) <= line[4] and (rent == 0 or flow == (line[4] if rent > 0 else -line[4])))
        for plant, most in zip(grid[2], mosts_of(grid)):
            (made,), (price,) = known[("made", plant[0])], known[("price", plant[1])]
            self.assertTrue(made == most if price > plant[3] else made == 0 if price < plant[3] else 0 <= made <= most)
        self.assertIs(judge_sheet(grid, sheet), True)
        self.assertIs(judge_sheet(grid, "\n".join(sheet.split("\n")[::-1])), True)

    def hold_ready(self, grid, room):
        """Hold that by the ready plan nothing falls behind any one fall; return what must be shed for that."""
        told = ready_plan(grid, ONE)
        ready = room.ready()
        self.assertEqual(ready, told[0])
        self.assertTrue(is_best(grid, (ring_names(grid), Fraction(1)), told))
        self.hold_balance(grid, ready)
        for name in ring_names(grid):
            left, plan = left_behind(grid, (name,), ready)
            self.assertEqual((plan, cascade(left, plan), islands_of(left)), (ready, (), islands_of(grid)))
            self.hold_balance(left, plan)
        worth, cost = [fraction(part) for part in price_of_ready(grid, ONE)]
        self.assertEqual(worth, loss_of(grid, ready) - fraction(room.lost))
        if worth == 0:
            self.assertEqual(cost, price_of(grid, ready) - fraction(room.cost))
        return worth

    def hold_meters(self, grid, room):
        """Hold that meters on all lines would tell the angles, and that nothing but readings of these fit."""
        flows = flows_of(grid, room.plan)
        word, angles = state(grid, tuple(("flow", line[0], flow) for line, flow in zip(grid[1], flows)))
        self.assertEqual(word, "one")
        known = dict(zip(grid[0], fractions(angles)))
        for line, flow in zip(grid[1], fractions(flows)):
            self.assertEqual(known[line[1]] - known[line[2]], flow * line[3])

    def hold_drills(self, grid, room):
        """Hold what is lost behind each fall, if nobody acts, against the room."""
        for (name,), rounds, worth, least in drills(grid, room.plan, 1):
            self.assertEqual(rounds, len(room.if_falls(name)))
            self.assertGreaterEqual(fraction(worth), fraction(least))
        for load in grid[3]:
            cost = cost_at(cost_curve(grid, load[0], load[2]), (load[2], 1))
            self.assertEqual(cost, room.cost if room.lost == (0, 1) else None)

    def hold(self, room, desk):
        """Hold all that must be behind an event; return (what is lost, what must be shed to be ready)."""
        grid = room.grid
        self.hold_balance(grid, room.plan)
        self.hold_cheapest(grid, room)
        self.hold_meters(grid, room)
        self.hold_drills(grid, room)
        self.assertEqual(room.trips(), ())
        self.assertEqual(cascade(grid, room.plan), ())
        self.assertEqual([desk.say("lost"), desk.say("cost")], [written(fraction(room.lost)), written(fraction(room.cost))])
        self.assertEqual(read_grid(desk.say("grid")), grid)
        return fraction(room.lost), self.hold_ready(grid, room)

    def try_event(self, room, desk, event):
        """Let an event be in the room and at the desk."""
        if isinstance(event[0], str):
            getattr(room, event[0])(*event[1:])
            answer = f"lost {written(fraction(room.lost))} cost {written(fraction(room.cost))}"
            self.assertEqual(desk.say(" ".join(str(word) for word in event)), answer)
            return
        error, word, *rest = event
        with self.assertRaises(error):
            getattr(room, word)(*rest)
        self.assertIn(desk.say(" ".join(str(word) for word in event[1:])), ("no such name", "no such number"))

    def test_a_day(self):
        grid = read_grid(TEXT)
        self.assertEqual(read_grid(write_grid(grid)), grid)
        room, desk = Room(grid), Desk()
        desk.read(TEXT)
        seen = [self.hold(room, desk)]
        for event in DAY:
            self.try_event(room, desk, event)
            seen.append(self.hold(room, desk))
        # The day had hours in which nothing was lost and such in which something was, and both kinds of ready plans.
        self.assertTrue(any(lost for lost, _ in seen) and any(not lost for lost, _ in seen))
        self.assertTrue(any(more for _, more in seen) and any(not more for _, more in seen))
        while room.log:
            room.undo()
            desk.say("undo")
        self.assertEqual([room.grid, desk.say("grid"), desk.say("log")], [grid, write_grid(grid), "-"])
        with self.assertRaises(NothingDone):
            room.undo()
        self.assertEqual(desk.say("undo"), "nothing done")


if __name__ == "__main__":
    unittest.main()
