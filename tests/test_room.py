import unittest
from random import Random

from tests.sums import NO_FALLS, best_in_row, is_best, is_safe_plan, is_some_plan, loss_of, price_of, ring_names, some_plan
from tests.support import (
    CHAIN, LOOP, ONE, PARALLEL, SINGLE, WRONG, fraction, lacking, ratios, some_full_grid, some_joined_grid,
)
from wattkeep.cascades import cascade, left_behind
from wattkeep.errors import BadGrid, BadName, BadNumber, NothingDone
from wattkeep.ready import is_ready, ready_plan
from wattkeep.room import Room
from wattkeep.shedding import best_plan, shows_best_plan

PROPERTIES = ("grid", "down", "papers", "plan", "lost", "cost", "log")
NOT_AMOUNTS = (-1, 1000, 5000, True, False, None, "3", "", (3, 1), (), [3], {3: 3})


def needing(grid, name, amount):
    """Return the grid in which a load needs another amount."""
    loads = tuple(load[:2] + (amount, load[3]) if load[0] == name else load for load in grid[3])
    return grid[:3] + (loads,)


def behind(grid, events):
    """Return (grid, names of the lines that are down) behind events, told event by event."""
    down = ()
    for word, name, *rest in events:
        if word == "fall":
            down += (name,)
        elif word == "back":
            down = tuple(known for known in down if known != name)
        else:
            grid = needing(grid, name, *rest)
    return lacking(grid, down), down


def told_by(room):
    """Return all that a room shows of itself."""
    return tuple(getattr(room, name) for name in PROPERTIES) + (room.ready(), room.trips())


def some_event(random, grid, down):
    """Return an event that can be in a room whose lines that have fallen are down, None if the one tried cannot."""
    word = random.choice(["fall", "fall", "back", "need"])
    standing = [line[0] for line in grid[1] if line[0] not in down]
    if word == "fall" and standing:
        return ("fall", random.choice(standing))
    if word == "back" and down:
        return ("back", random.choice(down))
    if word == "need" and grid[3]:
        return ("need", random.choice(grid[3])[0], random.choice([0, 1, 5, 9, 40, 999]))
    return None


def wrong_calls(random, grid, down):
    """Return (error, name of a method, arguments) for events that cannot be."""
    standing = [line[0] for line in grid[1] if line[0] not in down]
    others = [item[0] for item in grid[2]] + list(grid[0])
    found = [(BadName, "fall", (name,)) for name in (*down, random.choice(others), None, ("l0",))]
    found += [(BadName, "back", (name,)) for name in standing[:2] + [random.choice(others), None, [], "zz"]]
    found += [(BadName, "need", (name, 5)) for name in (random.choice(others), *standing[:1], *down[:1], "zz", None)]
    if grid[3]:
        found += [(BadNumber, "need", (grid[3][0][0], amount)) for amount in NOT_AMOUNTS]
    found += [(BadName, "if_falls", (name,)) for name in (*down, random.choice(others), None)]
    return found


class RoomTests(unittest.TestCase):
    def hold(self, room, first, events):
        """Hold what a room shows behind events against points 39 and 40."""
        grid, down = behind(first, events)
        self.assertEqual((room.grid, room.down, room.log), (grid, down, list(events)))
        plan, papers = room.plan, room.papers
        self.assertEqual(plan, papers[0])
        self.assertTrue(is_some_plan(grid, plan) and is_safe_plan(grid, NO_FALLS, plan))
        self.assertTrue(is_best(grid, NO_FALLS, best_in_row(papers)), (grid, papers))
        self.assertIs(shows_best_plan(grid, papers), True)
        self.assertEqual((fraction(room.lost), fraction(room.cost)), (loss_of(grid, plan), price_of(grid, plan)))
        self.assertEqual(room.trips(), ())
        self.assertEqual(cascade(grid, plan), ())

    def hold_ready(self, room):
        """Hold that nothing trips behind the fall of any line that is no bridge, nobody acting."""
        ready = room.ready()
        self.assertEqual(ready, ready_plan(room.grid, ONE)[0])
        self.assertIs(is_ready(room.grid, ready, ONE), True)
        self.assertTrue(is_safe_plan(room.grid, (ring_names(room.grid), fraction(ONE)), ready))
        for name in ring_names(room.grid):
            self.assertEqual(cascade(*left_behind(room.grid, (name,), ready)), ())

    def hold_falls(self, room):
        """Hold what happens behind any one fall when nobody acts; return how many rounds there are in all."""
        rounds = 0
        for line in room.grid[1]:
            told = room.if_falls(line[0])
            self.assertEqual(told, cascade(*left_behind(room.grid, (line[0],), room.plan)))
            rounds += len(told)
        return rounds


class ByHand(RoomTests):
    def test_the_rooms_properties(self):
        room = Room(PARALLEL)
        self.assertEqual((room.grid, room.down, room.log), (PARALLEL, (), []))
        self.assertEqual((room.plan, room.lost, room.cost), ((ratios(5, 0), ratios(0)), (0, 1), (5, 1)))
        self.assertEqual(room.papers, best_plan(PARALLEL))
        self.assertEqual(room.ready(), (ratios(3, 2), ratios(0)))
        self.assertEqual(room.trips(), ())
        # The other line bears all 5, trips, and n is served by nobody.
        self.assertEqual(room.if_falls("x"), ((("y",), (ratios(0, 0), ratios(5))),))

    def test_falls_and_lines_that_come_back(self):
        room = Room(PARALLEL)
        self.assertIs(room.fall("y"), None)
        self.assertEqual((room.plan, room.lost, room.cost), ((ratios(3, 2), ratios(0)), (0, 1), (11, 1)))
        self.assertEqual((room.down, room.grid[1]), (("y",), PARALLEL[1][:1]))
        self.assertEqual(room.if_falls("x"), ())
        room.fall("x")
        self.assertEqual((room.plan, room.cost, room.down, room.grid[1]), ((ratios(0, 5), ratios(0)), (20, 1), ("y", "x"), ()))
        self.assertIs(room.back("y"), None)
        self.assertEqual((room.down, room.grid[1], room.cost), (("x",), PARALLEL[1][1:], (11, 1)))
        room.back("x")
        # Lines stand in the grid's order again, however they came back.
        self.assertEqual((room.down, room.grid, room.cost), ((), PARALLEL, (5, 1)))
        self.assertEqual(room.log, [("fall", "y"), ("fall", "x"), ("back", "y"), ("back", "x")])

    def test_needs(self):
        room = Room(PARALLEL)
        self.assertIs(room.need("n", 17), None)
        self.assertEqual((room.plan, room.lost, room.cost), ((ratios(6, 9), ratios(2)), (100, 1), (42, 1)))
        self.assertEqual(room.grid, needing(PARALLEL, "n", 17))
        room.need("n", 0)
        self.assertEqual((room.plan, room.lost, room.cost), ((ratios(0, 0), ratios(0)), (0, 1), (0, 1)))
        room.need("n", 999)
        self.assertEqual(room.lost, (50 * 984, 1))
        # The same amount again is an event, too.
        room.need("n", 999)
        self.assertEqual(room.log, [("need", "n", amount) for amount in (17, 0, 999, 999)])

    def test_undo(self):
        room = Room(PARALLEL)
        room.fall("x")
        room.need("n", 2)
        room.need("n", 9)
        room.fall("y")
        room.back("x")
        for log, down, need in (
            ([("fall", "x"), ("need", "n", 2), ("need", "n", 9), ("fall", "y")], ("x", "y"), 9),
            ([("fall", "x"), ("need", "n", 2), ("need", "n", 9)], ("x",), 9),
            ([("fall", "x"), ("need", "n", 2)], ("x",), 2), ([("fall", "x")], ("x",), 5), ([], (), 5),
        ):
            self.assertIs(room.undo(), None)
            self.assertEqual((room.log, room.down, room.grid[3][0][2]), (log, down, need))
            self.hold(room, PARALLEL, log)
        with self.assertRaises(NothingDone):
            room.undo()
        self.assertEqual((room.log, room.grid), ([], PARALLEL))
        room.fall("x")
        self.assertEqual(room.log, [("fall", "x")])

    def test_the_order_of_those_that_are_down(self):
        room = Room(LOOP)
        for name in ("z", "x", "w"):
            room.fall(name)
        room.back("z")
        self.assertEqual(room.down, ("x", "w"))
        room.undo()
        self.assertEqual(room.down, ("z", "x", "w"))
        room.back("x")
        room.fall("x")
        self.assertEqual(room.down, ("z", "w", "x"))

    def test_what_a_caller_does_to_the_log_changes_nothing(self):
        room = Room(PARALLEL)
        room.log.append(("fall", "y"))
        self.assertEqual(room.log, [])
        room.fall("x")
        log = room.log
        log.clear()
        self.assertEqual(room.log, [("fall", "x")])
        self.assertIsNot(room.log, room.log)
        room.undo()
        self.assertEqual((room.grid, room.log), (PARALLEL, []))

    def test_two_rooms(self):
        one, other = Room(PARALLEL), Room(PARALLEL)
        one.fall("x")
        self.assertEqual((other.down, other.log, other.grid), ((), [], PARALLEL))
        other.fall("y")
        self.assertEqual((one.down, other.down), (("x",), ("y",)))

    def test_rooms_without_lines_plants_or_loads(self):
        for grid in (SINGLE, CHAIN, (("a",), (), (), (("n", "a", 4, 7),)), (("a",), (), (("p", "a", 4, 7),), ())):
            room = Room(grid)
            self.hold(room, grid, [])
            self.hold_ready(room)
            for error, call in ((NothingDone, room.undo), (BadName, lambda: room.fall("zz")), (BadName, lambda: room.back("x"))):
                with self.assertRaises(error):
                    call()
        self.assertEqual(Room((("a",), (), (), (("n", "a", 4, 7),))).lost, (28, 1))

    def test_falls_of_bridges(self):
        room = Room(LOOP)
        self.assertEqual((room.lost, ring_names(LOOP)), ((0, 1), ("x", "y", "z")))
        room.fall("w")
        self.assertEqual((room.lost, room.plan[1]), ((200, 1), ratios(0, 5)))
        self.assertEqual(room.if_falls("z"), cascade(*left_behind(room.grid, ("z",), room.plan)))
        room.fall("x")
        # y and z are bridges now, so that the ready plan is a best plan.
        self.assertEqual(ring_names(room.grid), ())
        self.assertIs(shows_best_plan(room.grid, (room.ready(),) + room.papers[1:]), True)
        self.hold(room, LOOP, [("fall", "w"), ("fall", "x")])

    def test_ready_where_more_must_be_shed_for_it(self):
        grid = PARALLEL[:2] + (PARALLEL[2][:1], PARALLEL[3])
        room = Room(grid)
        self.assertEqual((room.lost, room.ready()), ((0, 1), (ratios(3), ratios(2))))
        self.assertEqual(room.if_falls("x"), ((("y",), (ratios(0), ratios(5))),))
        room.fall("x")
        self.assertEqual((room.lost, room.plan, room.ready()), ((100, 1), (ratios(3), ratios(2)), (ratios(3), ratios(2))))


class WrongArguments(RoomTests):
    def test_grids(self):
        for value in WRONG + (PARALLEL[:3], list(PARALLEL), (PARALLEL,)):
            with self.assertRaises(BadGrid, msg=value):
                Room(value)

    def test_names(self):
        room = Room(PARALLEL)
        room.fall("y")
        before = told_by(room)
        for name in WRONG + ("a", "p", "n", "X", "x ", ("x",), ["x"], {"x": 1}, "y"):
            with self.assertRaises(BadName, msg=name):
                room.fall(name)
            with self.assertRaises(BadName, msg=name):
                room.if_falls(name)
        for name in WRONG + ("a", "p", "n", "Y", " y", ("y",), ["y"], "x"):
            with self.assertRaises(BadName, msg=name):
                room.back(name)
        for name in WRONG + ("a", "p", "x", "y", "N", ("n",), ["n"]):
            # Of two wrong arguments the error of the leftmost one.
            for amount in (3, None, -1):
                with self.assertRaises(BadName, msg=name):
                    room.need(name, amount)
        self.assertEqual(told_by(room), before)

    def test_amounts(self):
        room = Room(PARALLEL)
        before = told_by(room)
        for amount in NOT_AMOUNTS + tuple(value for value in WRONG if isinstance(value, bool) or not isinstance(value, int)):
            with self.assertRaises(BadNumber, msg=amount):
                room.need("n", amount)
        self.assertEqual(told_by(room), before)
        for amount in (0, 999):
            room.need("n", amount)
            self.assertEqual(room.grid[3], (("n", "b", amount, 50),))


class AnyEvents(RoomTests):
    def walk(self, random, first, count):
        """Walk through events, undone ones and those that cannot be; return (room, events that stand, words)."""
        room, events, words = Room(first), [], []
        self.hold(room, first, events)
        for _ in range(count):
            grid, down = behind(first, events)
            event = some_event(random, first, down)
            if random.random() < 0.2:
                words.append("undo" if events else "nothing")
                if not events:
                    with self.assertRaises(NothingDone):
                        room.undo()
                else:
                    room.undo()
                    events = events[:-1]
            elif random.random() < 0.3:
                self.try_wrong(random, room, first, down)
                words.append("wrong")
            elif event is not None:
                getattr(room, event[0])(*event[1:])
                events = events + [event]
                words.append(event[0])
            self.hold(room, first, events)
        return room, events, words

    def try_wrong(self, random, room, first, down):
        """Hold that events that cannot be raise their errors and change nothing."""
        before = told_by(room)
        for error, name, arguments in random.sample(wrong_calls(random, first, down), 5):
            with self.assertRaises(error, msg=(name, arguments)):
                getattr(room, name)(*arguments)
            self.assertEqual(told_by(room), before)

    def test_rows_of_events(self):
        random = Random(221)
        words, rounds, losses = [], 0, 0
        for _ in range(50):
            first = random.choice([LOOP, PARALLEL, some_joined_grid(random), some_joined_grid(random), some_full_grid(random)])
            if not first[2]:
                continue
            kept = repr(first)
            room, events, said = self.walk(random, first, 12)
            self.hold_ready(room)
            rounds += self.hold_falls(room)
            losses += room.lost != (0, 1)
            words += said
            self.assertEqual(repr(first), kept)
            # The same events in another room come to the same.
            other = Room(first)
            for event in events:
                getattr(other, event[0])(*event[1:])
            self.assertEqual(told_by(other), told_by(room))
        for word in ("fall", "back", "need", "undo", "nothing", "wrong"):
            self.assertGreater(words.count(word), 10, word)
        self.assertGreater(min(rounds, losses), 10)

    def test_all_that_is_undone_is_as_it_was(self):
        random = Random(222)
        for _ in range(20):
            first = random.choice([LOOP, some_joined_grid(random)])
            room = Room(first)
            seen = [told_by(room)]
            while len(seen) < 7:
                event = some_event(random, first, room.down)
                if event is not None:
                    getattr(room, event[0])(*event[1:])
                    seen.append(told_by(room))
            for before in seen[-2::-1]:
                room.undo()
                self.assertEqual(told_by(room), before)

    def test_no_plan_of_many_is_better(self):
        random = Random(223)
        tried = 0
        for _ in range(40):
            room, _, _ = self.walk(random, some_joined_grid(random, 4), 4)
            for _ in range(12):
                plan = some_plan(random, room.grid)
                if is_safe_plan(room.grid, NO_FALLS, plan):
                    tried += 1
                    known = (fraction(room.lost), fraction(room.cost))
                    self.assertLessEqual(known, (loss_of(room.grid, plan), price_of(room.grid, plan)))
        self.assertGreater(tried, 100)


if __name__ == "__main__":
    unittest.main()
