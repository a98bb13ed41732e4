import unittest
from itertools import product
from random import Random

from tests.sums import cost_told, is_cheapest_told, try_bent
from tests.support import SINGLE, WRONG, ratios, some_full_grid, some_joined_grid
from wattkeep.dispatch import cheapest
from wattkeep.errors import BadGrid, BadStarts
from wattkeep.starts import cheapest_on, shows_cheapest_on

# Either plant can do it alone; p is dearer to run.
PAIR = (("a",), (), (("p", "a", 9, 3), ("q", "a", 9, 1)), (("n", "a", 5, 50),))
# q is behind a line that bears 3.
LINE = (("a", "b"), (("x", "b", "a", 1, 3),), (("p", "a", 9, 3), ("q", "b", 9, 1)), (("n", "a", 5, 50),))
FIVE = (("a",), (), tuple(("p" + str(at), "a", 1, 1) for at in range(5)), ())


def lots_of(grid):
    return list(product((False, True), repeat=len(grid[2])))


def lot_grid(grid, lot):
    plants = tuple((name, node, most if on else 0, price) for (name, node, most, price), on in zip(grid[2], lot))
    return (grid[0], grid[1], plants, grid[3])


def first_lot(grid, starts, tolds):
    """Return the first of the lots of least cost, by the costs that are told."""
    known = []
    for lot, told in zip(lots_of(grid), tolds):
        cost = cost_told(lot_grid(grid, lot), told)
        if cost is not None:
            known.append((cost + sum(start for start, on in zip(starts, lot) if on), lot))
    return min(known, default=(0, None))[1]


def is_right(grid, starts, value):
    """Tell whether (lot, tolds) is as point 23 says."""
    lot, tolds = value
    lots = lots_of(grid)
    if not isinstance(tolds, tuple) or len(tolds) != len(lots):
        return False
    if not all(is_cheapest_told(lot_grid(grid, known), told) for known, told in zip(lots, tolds)):
        return False
    return repr(lot) == repr(first_lot(grid, starts, tolds))


def some_four(random):
    grid = random.choice([some_full_grid, some_joined_grid])(random)
    return (grid[0], grid[1], grid[2][:random.randint(0, 4)], grid[3])


class CheapestOn(unittest.TestCase):
    def test_starts_change_which_lot_is_first(self):
        for grid, starts, lot in (
            (PAIR, (0, 0), (False, True)), (PAIR, (0, 9), (False, True)), (PAIR, (0, 11), (True, False)),
            (PAIR, (9999, 9999), (False, True)), (PAIR, (0, 9999), (True, False)), (PAIR, (9999, 0), (False, True)),
            # 3 from q cost 3 and 2 from p cost 6, and p alone costs 15.
            (LINE, (0, 0), (True, True)), (LINE, (0, 5), (True, True)), (LINE, (0, 7), (True, False)),
            (LINE, (9999, 0), (True, True)), (LINE, (9999, 9999), (True, False)),
        ):
            told = cheapest_on(grid, starts)
            self.assertEqual(told[0], lot, (grid, starts))
            self.assertTrue(is_right(grid, starts, told))

    def test_the_first_of_lots_that_cost_as_much(self):
        for grid, starts, lot in (
            # q alone costs 5 and its start; p alone 15.
            (PAIR, (0, 10), (False, True)), (PAIR, (7, 17), (False, True)), (PAIR, (7, 18), (True, False)),
            (LINE, (0, 6), (True, False)), (LINE, (1, 6), (True, False)),
            # A plant that is on for nothing changes nothing: it is off in the first lot.
            (PAIR[:3] + ((("n", "a", 0, 50),),), (0, 0), (False, False)),
            ((("a",), (), (("p", "a", 0, 3), ("q", "a", 5, 1)), (("n", "a", 5, 50),)), (0, 0), (False, True)),
            ((("a",), (), (("p", "a", 5, 1), ("q", "a", 5, 1)), (("n", "a", 5, 50),)), (3, 3), (False, True)),
        ):
            told = cheapest_on(grid, starts)
            self.assertEqual(told[0], lot, (grid, starts))
            self.assertTrue(is_right(grid, starts, told))

    def test_no_plants(self):
        self.assertEqual(cheapest_on(SINGLE, ()), ((), (cheapest(SINGLE),)))
        need = (("a",), (), (), (("n", "a", 5, 50),))
        self.assertEqual(cheapest_on(need, ()), (None, (cheapest(need),)))

    def test_no_lot_with_a_plan(self):
        grid = PAIR[:3] + ((("n", "a", 19, 50),),)
        lot, tolds = cheapest_on(grid, (1, 2))
        self.assertIs(lot, None)
        self.assertEqual([told[0] for told in tolds], ["none"] * 4)
        self.assertTrue(is_right(grid, (1, 2), (lot, tolds)))

    def test_lots_are_ordered_as_tuples(self):
        grid = (("a",), (), (("p", "a", 4, 3), ("q", "a", 9, 1)), (("n", "a", 5, 50),))
        self.assertEqual([told[0] for told in cheapest_on(grid, (0, 0))[1]], ["none", "plan", "none", "plan"])
        turned = grid[:2] + (grid[2][::-1],) + grid[3:]
        self.assertEqual([told[0] for told in cheapest_on(turned, (0, 0))[1]], ["none", "none", "plan", "plan"])
        self.assertEqual(cheapest_on(grid, (0, 0))[1][3][1], (ratios(0, 5), ratios(0)))

    def test_sums(self):
        random = Random(121)
        counts, lots = set(), set()
        for _ in range(80):
            grid = some_four(random)
            starts = tuple(random.choice([0, 5, 30, 9999]) for _ in grid[2])
            told = cheapest_on(grid, starts)
            self.assertTrue(is_right(grid, starts, told), (grid, starts))
            self.assertEqual(len(told[1]), 2 ** len(grid[2]))
            self.assertEqual(told[1], tuple(cheapest(lot_grid(grid, lot)) for lot in lots_of(grid)))
            self.assertIs(shows_cheapest_on(grid, starts, told), True)
            counts.add(len(grid[2]))
            lots.add(told[0])
        self.assertEqual(counts, {0, 1, 2, 3, 4})
        self.assertTrue(None in lots and len(lots) > 8, lots)

    def test_wrong_starts(self):
        for starts in WRONG + ((), (1,), (1, 2, 3), [1, 2], (1, -1), (10000, 1), (1, True), (False, 1), (1, None), (1, "1"),
                               "12", {0: 1, 1: 1}, ((1, 1), (1, 1))):
            for call in (cheapest_on, lambda *args: shows_cheapest_on(*args, None)):
                with self.assertRaises(BadStarts, msg=starts):
                    call(PAIR, starts)
                with self.assertRaises(BadGrid):
                    call((), starts)
        for starts in ((1,) * 5, (1,) * 4, ()):
            with self.assertRaises(BadStarts):
                cheapest_on(FIVE, starts)
            with self.assertRaises(BadStarts):
                shows_cheapest_on(FIVE, starts, None)
        self.assertEqual(cheapest_on(PAIR, (9999, 9999))[0], (False, True))
        self.assertEqual(cheapest_on(FIVE[:2] + (FIVE[2][:4],) + FIVE[3:], (1,) * 4)[0], (False,) * 4)


class ShowsCheapestOn(unittest.TestCase):
    def test_other_right_answers(self):
        even = (("a",), (), (("p", "a", 5, 1), ("q", "a", 5, 1)), (("n", "a", 5, 50),))
        lot, tolds = cheapest_on(even, (3, 3))
        for made, right in (((5, 0), True), ((0, 5), True), ((2, 3), True), ((5, 1), False)):
            other = tolds[:3] + (("plan", (ratios(*made), ratios(0)), (ratios(1), ())),)
            self.assertIs(shows_cheapest_on(even, (3, 3), (lot, other)), right)
        for price, right in ((1, True), (99, True), (0, False)):
            other = (("none", (ratios(price), ())),) + tolds[1:]
            self.assertIs(shows_cheapest_on(even, (3, 3), (lot, other)), right)
        for other in ((True, False), (True, True), (False, False), None, (False,), (0, 1), (False, 1), [False, True], ()):
            self.assertIs(shows_cheapest_on(even, (3, 3), (other, tolds)), False)
        self.assertIs(shows_cheapest_on(even, (3, 4), (lot, tolds)), False)
        self.assertIs(shows_cheapest_on(even, (3, 4), ((True, False), tolds)), True)

    def test_bent_in_one_place(self):
        random = Random(122)
        falses = 0
        lots = [(PAIR, (0, 11)), (LINE, (3, 3)), (SINGLE, ()), (PAIR[:3] + ((("n", "a", 19, 50),),), (0, 0))]
        while len(lots) < 8:
            grid = some_four(random)
            if len(grid[2]) < 3 and len(grid[0]) < 4:
                lots.append((grid, tuple(random.choice([0, 5, 30]) for _ in grid[2])))
        for grid, starts in lots:
            falses += try_bent(
                self, cheapest_on(grid, starts), lambda told: is_right(grid, starts, told),
                lambda told: shows_cheapest_on(grid, starts, told),
            )
        self.assertGreater(falses, 1000)

    def test_values_of_other_kinds(self):
        lot, tolds = cheapest_on(PAIR, (0, 0))
        for value in WRONG + ((lot,), (tolds,), (tolds, lot), (lot, tolds, lot), (lot, tolds[:3]), (lot, tolds + tolds[:1]),
                              (lot, tolds[::-1]), (lot, list(tolds)), (lot, None), (lot, tolds[0]), [lot, tolds], ()):
            self.assertIs(shows_cheapest_on(PAIR, (0, 0), value), False, value)


if __name__ == "__main__":
    unittest.main()
