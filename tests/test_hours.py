import unittest
from fractions import Fraction
from random import Random

from tests.sums import cases, flows_in, is_told, product, spot, try_bent
from tests.support import (
    SINGLE, WRONG, fraction, fractions, islands_of, ratio, ratios, some_full_grid, some_joined_grid,
)
from wattkeep.dispatch import cheapest, cost_of
from wattkeep.errors import BadGrid, BadHours, BadStores
from wattkeep.hours import hours_plan, hours_program, parts_from, shows_hours_plan
from wattkeep.programs import best_of

# A cheap plant behind a line that bears 3, and a dear one with the load.
PAIR = (("a", "b"), (("x", "a", "b", 1, 3),), (("p", "a", 9, 1), ("q", "b", 9, 4)), (("n", "b", 5, 50),))
POINT = (("a",), (), (("p", "a", 5, 1), ("q", "a", 9, 4)), (("n", "a", 5, 50),))
WIDE = (999, 999)


def hour_grid(grid, hour):
    """Return the grid with the needs of an hour."""
    return grid[:3] + (tuple(load[:2] + (need,) + load[3:] for load, need in zip(grid[3], hour)),)


def hour_stands(grid, hour, stores, part):
    """Tell whether the parts of an hour are within their bounds, balance and are borne."""
    made, given, kept = [fractions(amounts) for amounts in part]
    if [len(made), len(given), len(kept)] != [len(grid[2]), len(stores), len(stores)]:
        return False
    if any(not 0 <= amount <= plant[2] for amount, plant in zip(made, grid[2])):
        return False
    if any(not 0 <= amount <= store[3] for amount, store in zip(given + kept, stores + stores)):
        return False
    inject = [Fraction(0)] * len(grid[0])
    for items, amounts, sign in ((grid[2], made, 1), (stores, given, 1), (stores, kept, -1), (grid[3], hour, -1)):
        for item, amount in zip(items, amounts):
            inject[spot(grid, item)] += sign * amount
    if any(sum(inject[grid[0].index(node)] for node in island) for island in islands_of(grid)):
        return False
    (left, limits), = cases(grid, ((), 1))
    return all(abs(flow) <= limit for flow, limit in zip(flows_in(grid, left, ratios(*inject)), limits))


def parts_stand(grid, hours, stores, ramps, parts):
    """Tell whether parts of all hours are within every bound of point 21."""
    if not isinstance(parts, tuple) or len(parts) != len(hours):
        return False
    if not all(isinstance(part, tuple) and len(part) == 3 for part in parts):
        return False
    if not all(hour_stands(grid, hour, stores, part) for hour, part in zip(hours, parts)):
        return False
    for (before, _, _), (after, _, _) in zip(parts, parts[1:]):
        if any(abs(one - other) > ramp for one, other, ramp in zip(fractions(before), fractions(after), ramps)):
            return False
    for at, store in enumerate(stores):
        stock = Fraction(store[4])
        for _, given, kept in parts:
            stock += fraction(kept[at]) - fraction(given[at])
            if not 0 <= stock <= store[2]:
                return False
    return True


def parts_cost(grid, parts):
    return sum((made * plant[3] for part in parts for made, plant in zip(fractions(part[0]), grid[2])), Fraction(0))


def point_of(parts):
    return tuple(amount for part in parts for amounts in part for amount in amounts)


def is_hours_told(grid, hours, stores, ramps, value):
    """Tell whether a value is what hours_plan may tell."""
    program, told = hours_program(grid, hours, stores, ramps), value[-1]
    if not isinstance(told, tuple):
        return False
    if value[0] == "none":
        return len(value) == 2 and told[0] == "none" and len(told) == 2 and is_told(program, told)
    word, parts, _ = value
    if word != "plan" or told[0] != "best" or len(told) != 3 or not is_told(program, told):
        return False
    if not parts_stand(grid, hours, stores, ramps, parts):
        return False
    return point_of(parts) == told[1] and parts_cost(grid, parts) == product(fractions(program[0]), fractions(told[1]))


def least_by_angles(grid, hours, stores, ramps):
    """Return the least costs, or None, by another program: with flows and angles as variables beside the parts."""
    plants, lines, nodes, many = len(grid[2]), len(grid[1]), len(grid[0]), len(stores)
    width = plants + 2 * many + 2 * lines + 2 * nodes
    rows, rights = [], []

    def bound(parts, right):
        row = [Fraction(0)] * (width * len(hours))
        for at, part in parts:
            row[at] += part
        rows.append(ratios(*row))
        rights.append(ratio(right))

    for time, hour in enumerate(hours):
        made = [width * time + at for at in range(plants)]
        given = [width * time + plants + at for at in range(many)]
        kept = [at + many for at in given]
        along = [width * time + plants + 2 * many + at for at in range(lines)]
        against = [at + lines for at in along]
        high = [width * time + plants + 2 * many + 2 * lines + at for at in range(nodes)]
        low = [at + nodes for at in high]
        for at, plant in zip(made, grid[2]):
            bound([(at, 1)], plant[2])
        for one, other, store in zip(given, kept, stores):
            bound([(one, 1)], store[3])
            bound([(other, 1)], store[3])
        for one, other, line in zip(along, against, grid[1]):
            start, goal = grid[0].index(line[1]), grid[0].index(line[2])
            for sign in (1, -1):
                bound([(one, sign), (other, -sign)], line[4])
                angle = [(high[start], -sign), (low[start], sign), (high[goal], sign), (low[goal], -sign)]
                bound([(one, sign * line[3]), (other, -sign * line[3])] + angle, 0)
        for place, node in enumerate(grid[0]):
            parts = [(at, 1) for at, plant in zip(made, grid[2]) if plant[1] == node]
            for one, other, store in zip(given, kept, stores):
                parts += [(one, 1), (other, -1)] if store[1] == node else []
            for one, other, line in zip(along, against, grid[1]):
                sign = (line[2] == node) - (line[1] == node)
                parts += [(one, sign), (other, -sign)]
            need = sum(amount for amount, load in zip(hour, grid[3]) if load[1] == node)
            bound(parts, need)
            bound([(at, -part) for at, part in parts], -need)
        if time:
            for at, ramp in zip(made, ramps):
                bound([(at, 1), (at - width, -1)], ramp)
                bound([(at, -1), (at - width, 1)], ramp)
        for one, other, store in zip(given, kept, stores):
            flow = [(at - width * back, part) for at, part in ((one, -1), (other, 1)) for back in range(time + 1)]
            bound(flow, store[2] - store[4])
            bound([(at, -part) for at, part in flow], store[4])
    costs = [Fraction(0)] * (width * len(hours))
    for time in range(len(hours)):
        for at, plant in enumerate(grid[2]):
            costs[width * time + at] = Fraction(plant[3])
    told = best_of(ratios(*costs), rows, rights)
    assert told[0] in ("best", "none"), told[0]
    return product(costs, fractions(told[1])) if told[0] == "best" else None


def some_hours(random, grid):
    """Return hours, stores and ramps for a grid."""
    hours = tuple(
        tuple(random.randint(0, load[2]) for load in grid[3]) for _ in range(random.randint(1, 3))
    )
    stores = []
    for at in range(random.randint(0, 2)):
        room = random.randint(0, 12)
        first = random.choice([0, room, random.randint(0, room)])
        stores.append(("s" + str(at), random.choice(grid[0]), room, random.choice([0, 2, 9]), first))
    ramps = tuple(random.choice([0, 1, 4, 999]) for _ in grid[2])
    return hours, tuple(stores), ramps


class HoursPlan(unittest.TestCase):
    def check(self, grid, hours, stores, ramps, cost):
        told = hours_plan(grid, hours, stores, ramps)
        self.assertTrue(is_hours_told(grid, hours, stores, ramps, told), told)
        self.assertIs(shows_hours_plan(grid, hours, stores, ramps, told), True)
        self.assertEqual(told[0], "none" if cost is None else "plan")
        if cost is not None:
            self.assertEqual(parts_cost(grid, told[1]), cost)
        return told

    def test_one_hour(self):
        for need, cost in ((0, 0), (3, 3), (5, 11), (12, 39), (13, None)):
            told = self.check(PAIR, ((need,),), (), WIDE, cost)
            self.assertEqual(told[0] == "plan", cheapest(hour_grid(PAIR, (need,)))[0] == "plan")
        self.assertEqual(hours_plan(PAIR, ((5,),), (), (0, 0))[1], ((ratios(3, 2), (), ()),))

    def test_ramps(self):
        # q is dear, and must make as much in both hours if it cannot move.
        for ramps, cost in (((999, 999), 3 + 11), ((999, 2), 14), ((999, 1), 14 + 3), ((999, 0), 14 + 6), ((0, 999), 14),
                            ((0, 0), None), ((1, 1), 14 + 3)):
            self.check(PAIR, ((3,), (5,)), (), ramps, cost)
            self.check(PAIR, ((5,), (3,)), (), ramps, cost)
        # The plants cannot come from 0 to 5.
        for ramps, cost in (((2, 2), None), ((3, 2), 11), ((999, 0), None), ((2, 3), 2 + 12), ((0, 0), None)):
            self.check(PAIR, ((0,), (5,)), (), ramps, cost)
            self.check(PAIR, ((5,), (0,)), (), ramps, cost)
        # 2 an hour take it there.
        self.check(PAIR, ((0,), (4,), (8,)), (), (3, 4), 0 + 7 + 23)

    def test_stores(self):
        for store, cost in (
            # Behind the line 2 are taken in while it has room, in the first hour, and given in the second one.
            (("s", "b", 2, 9, 0), 3 + 5 - 2 + 0), (("s", "b", 1, 9, 0), None), (("s", "b", 9, 1, 0), None),
            (("s", "b", 9, 9, 0), 6), (("s", "b", 9, 0, 9), None), (("s", "b", 2, 2, 2), 4), (("s", "b", 2, 1, 2), None),
            (("s", "b", 9, 9, 9), 0), (("s", "b", 5, 9, 5), 1), (("s", "a", 9, 9, 9), None), (("s", "b", 0, 9, 0), None),
        ):
            cheap = PAIR[:2] + (PAIR[2][:1],) + PAIR[3:]
            self.check(cheap, ((1,), (5,)), (store,), (999,), cost)

    def test_what_a_store_holds_behind_each_hour(self):
        # Full at first, it can take nothing before it has given; void, give nothing before it has taken.
        full, void = ("s", "a", 4, 9, 4), ("s", "a", 4, 9, 0)
        for store, needs, cost in (
            (full, (4, 0), 0), (full, (0, 4), 0), (full, (2, 2), 0), (full, (2, 3), 1), (void, (4, 4), 8), (void, (5, 5), 10),
            (void, (5, 9), 10 + 16), (void, (1, 9), 10), (void, (0, 9), 9), (void, (0, 10), 9 + 4), (void, (9, 1), 5 + 16 + 1),
        ):
            self.check(POINT, tuple((need,) for need in needs), (store,), WIDE, cost)
        # In one hour a store may give and take at once, which moves nothing.
        self.check(POINT, ((5,),), (full,), WIDE, 1)
        self.check(POINT, ((5,),), (void,), WIDE, 5)
        # Three hours: taken in the first, kept over the second, given in the third.
        self.check(POINT, ((1,), (5,), (9,)), (void,), WIDE, 5 + 5 + 5)
        self.check(POINT, ((3,), (5,), (9,)), (("s", "a", 9, 1, 0),), WIDE, 4 + 5 + 5 + 4 * 3)

    def test_two_stores(self):
        stores = (("s", "a", 4, 1, 0), ("t", "b", 4, 2, 1))
        self.check(PAIR, ((3,), (6,)), stores, WIDE, 3 + 3 + 4 * 2)
        self.check(PAIR, ((2,), (6,)), stores, WIDE, 3 + 3 + 4 * 1)
        self.check(PAIR, ((0,), (5,)), (("s", "b", 9, 9, 1), ("t", "b", 9, 9, 1)), WIDE, 3)

    def test_more_islands(self):
        grid = (
            ("a", "s", "b", "t"), (("x", "a", "b", 2, 4), ("y", "t", "s", 3, 2)),
            (("p", "a", 9, 2), ("q", "t", 9, 1), ("r", "s", 9, 7)), (("n", "b", 4, 9), ("m", "s", 6, 9)),
        )
        self.check(grid, ((4, 6), (0, 2)), (), (9, 9, 9), 8 + 2 + 28 + 0 + 2)
        self.check(grid, ((0, 0), (4, 6)), (("u", "s", 9, 9, 0),), (9, 9, 9), 2 + 8 + 2 + 14)
        self.check(grid, ((5, 0),), (), (9, 9, 9), None)
        self.check(grid, ((5, 0),), (("u", "b", 9, 9, 1),), (9, 9, 9), 8)
        self.check(grid, ((5, 0),), (("u", "s", 9, 9, 1),), (9, 9, 9), None)

    def test_no_plants_lines_or_loads(self):
        self.check(SINGLE, ((),), (), (), 0)
        self.check(SINGLE, ((), (), ()), (), (), 0)
        self.check(SINGLE, ((), ()), (("s", "a", 0, 0, 0),), (), 0)
        self.check((("a", "b"), (), (("p", "a", 3, 2),), ()), ((), ()), (), (0,), 0)
        lone = (("a",), (), (), (("n", "a", 1, 1),))
        self.check(lone, ((1,),), (), (), None)
        self.check(lone, ((1,), (0,)), (("s", "a", 1, 1, 1),), (), 0)
        self.check(lone, ((1,), (1,)), (("s", "a", 1, 1, 1),), (), None)
        self.check(lone, ((0,), (0,)), (), (), 0)

    def test_needs_hang_on_the_hours_alone(self):
        more = PAIR[:3] + ((("n", "b", 0, 0),),)
        self.check(more, ((12,),), (), WIDE, 39)
        self.check(more, ((999,),), (), WIDE, None)

    def test_names_of_stores_and_the_grid(self):
        # Stores must be unlike each other; the document says nothing of other names.
        self.check(PAIR, ((5,),), (("p", "b", 9, 9, 1),), WIDE, 3 + 4)

    def test_sums_and_another_program(self):
        random = Random(111)
        words = []
        for _ in range(150):
            grid = random.choice([some_full_grid, some_joined_grid])(random)
            hours, stores, ramps = some_hours(random, grid)
            told = hours_plan(grid, hours, stores, ramps)
            words.append((told[0], len(hours), len(stores)))
            self.assertTrue(is_hours_told(grid, hours, stores, ramps, told), (grid, hours, stores, ramps))
            self.assertIs(shows_hours_plan(grid, hours, stores, ramps, told), True)
            self.assertEqual(hours_plan(grid, hours, stores, ramps), told)
            if len(grid[0]) < 5:
                least = least_by_angles(grid, hours, stores, ramps)
                self.assertEqual(parts_cost(grid, told[1]) if told[0] == "plan" else None, least)
        for word in ("plan", "none"):
            for many in (1, 2, 3):
                self.assertGreater(len([known for known in words if known[:2] == (word, many)]), 5)
        self.assertGreater(len([known for known in words if known[0] == "plan" and known[2] == 2]), 5)

    def test_without_stores_and_with_wide_ramps_each_hour_is_by_itself(self):
        random = Random(112)
        plans = 0
        for _ in range(50):
            grid = some_joined_grid(random)
            hours, _, _ = some_hours(random, grid)
            told = hours_plan(grid, hours, (), (999,) * len(grid[2]))
            single = [(hour_grid(grid, hour), cheapest(hour_grid(grid, hour))) for hour in hours]
            right = all(answer[0] == "plan" for _, answer in single)
            self.assertEqual(told[0] == "plan", right)
            if right:
                plans += 1
                costs = sum(fraction(cost_of(known, answer[1])) for known, answer in single)
                self.assertEqual(parts_cost(grid, told[1]), costs)
        self.assertGreater(plans, 10)


class WrongArguments(unittest.TestCase):
    RIGHT = (PAIR, ((5,), (3,)), (("s", "a", 9, 4, 2),), (1, 2))

    def refused(self, at, value, error):
        args = self.RIGHT[:at] + (value,) + self.RIGHT[at + 1:]
        with self.assertRaises(error, msg=value):
            hours_plan(*args)
        with self.assertRaises(error, msg=value):
            shows_hours_plan(*args, None)

    def test_grids(self):
        for value in WRONG:
            self.refused(0, value, BadGrid)

    def test_hours(self):
        for value in WRONG + (
            (), ((),), ((5,), ()), ((5, 1),), ((5,),) * 4, [(5,)], ([5],), ((-1,),), ((1000,),), ((True,),), ((None,),),
            (("5",),), (((5, 1),),), (5,), ((5,), 5), ((5,), (False,)), {0: (5,)},
        ):
            self.refused(1, value, BadHours)
        for value in (((0,),), ((999,),), ((1,),) * 3):
            hours_plan(PAIR, value, (), (0, 0))

    def test_stores(self):
        for value in WRONG + (
            ((),), (("s",),), (("s", "a"),), (("s", "a", 9, 4),), (("s", "a", 9, 4, 2, 1),), (("s", "c", 9, 4, 2),), (("s", "x", 9, 4, 2),),
            (("S", "a", 9, 4, 2),), (("", "a", 9, 4, 2),), (("s" * 9, "a", 9, 4, 2),), ((1, "a", 9, 4, 2),),
            (("s", None, 9, 4, 2),), (("s", ["a"], 9, 4, 2),), (("s", "a", 1000, 4, 2),), (("s", "a", -1, 4, -1),),
            (("s", "a", 9, 1000, 2),), (("s", "a", 9, -1, 2),), (("s", "a", 9, 4, 10),), (("s", "a", 9, 4, -1),),
            (("s", "a", True, 4, 1),), (("s", "a", 9, False, 1),), (("s", "a", 9, 4, True),), (("s", "a", 9, 4, None),),
            (["s", "a", 9, 4, 2],), [("s", "a", 9, 4, 2)], ("s", "a", 9, 4, 2), (("s", "a", 9, 4, 2), None),
            (("s", "a", 9, 4, 2), ("s", "b", 8, 1, 0)), (("s", "a", 9, 4, 2), ("s", "a", 9, 4, 2)),
            (("s", "a", 9, 4, 2), ("t", "a", 9, 4, 2), ("u", "a", 9, 4, 2)), {"s": 1}, (("s", "a", "9", 4, 2),),
        ):
            self.refused(2, value, BadStores)
        for value in ((), (("s", "a", 999, 999, 999),), (("s", "a", 0, 0, 0), ("t1", "a", 4, 4, 4))):
            hours_plan(PAIR, ((5,),), value, (0, 0))

    def test_ramps(self):
        for value in WRONG + ((), (1,), (1, 2, 3), [1, 2], (1, -1), (1000, 1), (1, True), (False, 1), (1, None), "12", {}):
            self.refused(3, value, BadHours)


class ShowsHoursPlan(unittest.TestCase):
    def test_other_right_answers(self):
        # Two plants of one price: any parts of theirs do, with what best may tell of them.
        even = (("a",), (), (("p", "a", 5, 2), ("q", "a", 5, 2)), (("n", "a", 4, 1),))
        args = (even, ((4,),), (), (0, 0))
        word, parts, (best, point, paper) = hours_plan(*args)
        for made in ((4, 0), (0, 4), (1, 3), (Fraction(1, 2), Fraction(7, 2))):
            told = (word, ((ratios(*made), (), ()),), (best, ratios(*made), paper))
            self.assertIs(shows_hours_plan(*args, told), True)
            # The parts are those of the point.
            self.assertIs(shows_hours_plan(*args, told[:2] + ((best, ratios(2, 2), paper),)), False)
        self.assertIs(shows_hours_plan(*args, (word, ((ratios(5, 0), (), ()),), (best, ratios(5, 0), paper))), False)

    def test_answers_for_other_arguments(self):
        args = (PAIR, ((5,), (3,)), (), (1, 2))
        told = hours_plan(*args)
        self.assertIs(shows_hours_plan(*args, told), True)
        for other in (
            (PAIR, ((3,), (5,)), (), (1, 2)), (PAIR, ((5,), (4,)), (), (1, 2)), (PAIR, ((5,),), (), (1, 2)),
            (PAIR, ((5,), (3,)), (("s", "a", 1, 1, 1),), (1, 2)), (PAIR[:2] + (PAIR[2][::-1],) + PAIR[3:],) + args[1:],
        ):
            self.assertIs(shows_hours_plan(*other, told), False)

    def test_bent_in_one_place(self):
        random = Random(113)
        falses = 0
        lots = [
            (PAIR, ((5,), (3,)), (), (1, 2)), (PAIR, ((3,), (5,)), (("s", "b", 4, 1, 0),), (9, 9)),
            (PAIR, ((0,), (5,)), (), (2, 2)),
        ]
        while len(lots) < 9:
            grid = some_joined_grid(random, 3)
            lot = (grid,) + some_hours(random, grid)
            if len(lot[1]) < 3 and len(grid[2]) < 4:
                lots.append(lot)
        for lot in lots:
            falses += try_bent(
                self, hours_plan(*lot), lambda told: is_hours_told(*lot, told),
                lambda told: shows_hours_plan(*lot, told),
            )
        self.assertGreater(falses, 2000)

    def test_values_of_other_kinds(self):
        args = (PAIR, ((5,), (3,)), (), (1, 2))
        word, parts, told = hours_plan(*args)
        none = hours_plan(PAIR, ((99,),), (), (1, 2))
        for value in WRONG + (
            (word, parts), (word, told), ("none", told), ("none", parts, told), ("best", parts, told), (word, told, parts),
            (word, parts[:1], told), (word, parts + parts[:1], told), (word, parts[::-1], told), (word, None, told),
            (word, list(parts), told), (word, parts, list(told)), (word, parts, None), (word, parts, told[1:]), none,
            ("none", none), (told,), [word, parts, told], (), (word, parts, told, told), (word, word, parts, told),
        ):
            self.assertIs(shows_hours_plan(*args, value), False, value)
            with self.assertRaises(BadGrid):
                shows_hours_plan(SINGLE[:3], *args[1:], value)
        for value in (none, ("none", none[1])):
            self.assertIs(shows_hours_plan(PAIR, ((99,),), (), (1, 2), value), True)
        paper = none[1][1]
        # The paper of no plan is no point, even if it is cut as one.
        cut = parts_from(PAIR, ((99,),), (), paper)
        for value in (("plan", none[1]), ("plan", (), none[1]), ("none", none[1], none[1]), none[1], ("plan", cut, none[1])):
            self.assertIs(shows_hours_plan(PAIR, ((99,),), (), (1, 2), value), False)


if __name__ == "__main__":
    unittest.main()
