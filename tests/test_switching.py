import unittest
from itertools import combinations
from random import Random

from tests.sums import cost_told, is_cheapest_told, try_bent
from tests.support import SINGLE, WRONG, fraction, lacking, ratio, ratios, some_full_grid, some_joined_grid
from wattkeep.dispatch import cheapest
from wattkeep.errors import BadGrid, BadNumber
from wattkeep.switching import best_off, hurtful, shows_best_off

# A ring in which z hurts.
RING = (
    ("a", "b", "c"), (("x", "a", "b", 1, 90), ("y", "b", "c", 1, 90), ("z", "a", "c", 1, 6)),
    (("p", "a", 60, 1), ("q", "c", 60, 9)), (("n", "c", 20, 99),),
)
# Two such islands: z hurts in the one, w in the other.
TWO = (
    RING[0] + ("d", "e", "f"), (("w", "f", "d", 1, 6), ("u", "d", "e", 1, 90)) + RING[1] + (("v", "e", "f", 1, 90),),
    RING[2] + (("r", "d", 60, 1), ("s", "f", 60, 9)), RING[3] + (("m", "f", 20, 99),),
)
# Of the two lines z and w it is as good to do without the one as without the other.
EVEN = (RING[0], RING[1] + (("w", "a", "c", 1, 6),), RING[2], RING[3])
# With x there is no plan, without it there is one.
SHUT = (
    ("a", "b"), (("x", "a", "b", 1, 1), ("y", "a", "b", 1, 5)), (("p", "a", 9, 1),), (("n", "b", 5, 50),),
)
NOT_MOST = (-1, 3, 10, True, False, None, "1", (1,), [1], {}, (1, 1), "")


def lots_of(grid, most):
    names = [line[0] for line in grid[1]]
    return [lot for count in range(most + 1) for lot in combinations(names, count)]


def first_off(grid, most, tolds):
    known = []
    for at, (lot, told) in enumerate(zip(lots_of(grid, most), tolds)):
        cost = cost_told(lacking(grid, lot), told)
        if cost is not None:
            known.append((cost, at, lot))
    return min(known, default=(0, 0, None))[2]


def is_right(grid, most, value):
    """Tell whether (names, tolds) is as point 24 says."""
    names, tolds = value
    lots = lots_of(grid, most)
    if not isinstance(tolds, tuple) or len(tolds) != len(lots):
        return False
    if not all(is_cheapest_told(lacking(grid, lot), told) for lot, told in zip(lots, tolds)):
        return False
    return repr(names) == repr(first_off(grid, most, tolds))


class BestOff(unittest.TestCase):
    def test_by_hand(self):
        for grid, most, names in (
            (RING, 0, ()), (RING, 1, ("z",)), (RING, 2, ("z",)), (TWO, 0, ()), (TWO, 1, ("w",)), (TWO, 2, ("w", "z")),
            (EVEN, 2, ("z", "w")),
            (SHUT, 0, None), (SHUT, 1, ("x",)), (SHUT, 2, ("x",)), (SINGLE, 0, ()), (SINGLE, 1, ()), (SINGLE, 2, ()),
        ):
            told = best_off(grid, most)
            self.assertEqual(told[0], names, (grid, most))
            self.assertTrue(is_right(grid, most, told))

    def test_the_first_of_lots_that_cost_as_much(self):
        # Neither line is needed: the first lot is that of no line.
        grid = (("a",) + ("b",), (("x", "a", "b", 1, 9), ("y", "a", "b", 1, 9)), (("p", "a", 9, 1),), (("n", "a", 5, 50),))
        self.assertEqual([best_off(grid, most)[0] for most in range(3)], [(), (), ()])
        # Without w it costs as much as without z.
        turned = (TWO[0], TWO[1][::-1], TWO[2], TWO[3])
        for grid, names in ((TWO, ("w",)), (turned, ("z",))):
            told = best_off(grid, 1)
            costs = [cost_told(lacking(grid, lot), known) for lot, known in zip(lots_of(grid, 1), told[1])]
            self.assertEqual([costs[0], costs.count(min(cost for cost in costs if cost is not None))], [216, 2])
            self.assertEqual(told[0], names)

    def test_lots_stand_in_the_order_that_is_told(self):
        names = [("x",), ("y",), ("z",), ("w",)]
        lots = [()] + names + [("x", "y"), ("x", "z"), ("x", "w"), ("y", "z"), ("y", "w"), ("z", "w")]
        for most, count in ((0, 1), (1, 5), (2, 11)):
            tolds = best_off(EVEN, most)[1]
            self.assertEqual(tolds, tuple(cheapest(lacking(EVEN, lot)) for lot in lots[:count]))
            self.assertEqual([len(told[-1][1]) for told in tolds], [4 - len(lot) for lot in lots[:count]])

    def test_no_lot_with_a_plan(self):
        grid = (("a", "b"), (("x", "a", "b", 1, 9),), (("p", "a", 3, 1),), (("n", "b", 5, 50),))
        for most in range(3):
            names, tolds = best_off(grid, most)
            self.assertIs(names, None)
            self.assertEqual([told[0] for told in tolds], ["none"] * (1 + min(most, 1)))

    def test_sums(self):
        random = Random(131)
        found = []
        for _ in range(60):
            grid = random.choice([some_full_grid, some_joined_grid])(random)
            most = random.randint(0, 2)
            told = best_off(grid, most)
            self.assertTrue(is_right(grid, most, told), (grid, most))
            self.assertIs(shows_best_off(grid, most, told), True)
            found.append(told[0] if told[0] is None else len(told[0]))
        for known in (None, 0, 1):
            self.assertGreater(found.count(known), 2)

    def test_wrong_arguments(self):
        for most in WRONG + NOT_MOST:
            if most != 0 or isinstance(most, bool):
                for call in (best_off, lambda *args: shows_best_off(*args, None)):
                    with self.assertRaises(BadNumber, msg=most):
                        call(RING, most)
                    with self.assertRaises(BadGrid):
                        call([], most)


class ShowsBestOff(unittest.TestCase):
    def test_other_names(self):
        names, tolds = best_off(RING, 1)
        for other in ((), ("x",), ("z", "z"), "z", ["z"], None, ("z", None), (("z",),), 0, False):
            self.assertIs(shows_best_off(RING, 1, (other, tolds)), False, other)
        self.assertIs(shows_best_off(RING, 1, (names, tolds)), True)
        self.assertIs(shows_best_off(RING, 0, (names, tolds[:1])), False)
        self.assertIs(shows_best_off(RING, 0, ((), tolds[:1])), True)

    def test_other_right_answers(self):
        grid = (("a",), (), (("p", "a", 5, 1), ("q", "a", 5, 1)), (("n", "a", 5, 50),))
        for made, right in (((5, 0), True), ((0, 5), True), ((2, 3), True), ((5, 1), False)):
            told = ("plan", (ratios(*made), ratios(0)), (ratios(1), ()))
            self.assertIs(shows_best_off(grid, 2, ((), (told,))), right)

    def test_bent_in_one_place(self):
        random = Random(132)
        falses = 0
        lots = [(RING, 1), (SHUT, 2), (SINGLE, 2), (RING, 0)] + [(some_joined_grid(random, 3), 1) for _ in range(3)]
        for grid, most in lots:
            falses += try_bent(
                self, best_off(grid, most), lambda told: is_right(grid, most, told),
                lambda told: shows_best_off(grid, most, told),
            )
        self.assertGreater(falses, 1000)

    def test_values_of_other_kinds(self):
        names, tolds = best_off(RING, 1)
        for value in WRONG + ((names,), (tolds,), (tolds, names), (names, tolds, names), (names, tolds[:3]), (names, tolds[0]),
                              (names, tolds + tolds[:1]), (names, tolds[::-1]), (names, list(tolds)), (names, None), ()):
            self.assertIs(shows_best_off(RING, 1, value), False, value)


class Hurtful(unittest.TestCase):
    def test_by_hand(self):
        self.assertEqual(hurtful(RING), (("z", (108, 1), (20, 1)),))
        self.assertEqual(hurtful(SINGLE), ())
        # There is no plan, though there is one without x.
        self.assertEqual(hurtful(SHUT), ())
        self.assertEqual(best_off(SHUT, 1)[0], ("x",))
        # Without x there is no plan, and without y it costs as much.
        grid = (("a", "b"), (("x", "a", "b", 1, 9), ("y", "a", "b", 9, 4)), (("p", "a", 9, 1),), (("n", "b", 9, 50),))
        self.assertEqual(hurtful(grid), ())

    def test_against_cheapest(self):
        random = Random(133)
        found = []
        for _ in range(120):
            grid = random.choice([some_full_grid, some_joined_grid])(random)
            told = hurtful(grid)
            own = cost_told(grid, cheapest(grid))
            right = []
            for line in grid[1]:
                left = lacking(grid, (line[0],))
                cost = cost_told(left, cheapest(left))
                if own is not None and cost is not None and cost < own:
                    right.append((line[0], ratio(own), ratio(cost)))
            self.assertEqual(told, tuple(right))
            self.assertTrue(all(fraction(cost) > fraction(less) for _, cost, less in told))
            found.append(len(told))
        self.assertGreater(len(found) - found.count(0), 5, found)

    def test_two_that_hurt_stand_in_order(self):
        told = hurtful(TWO)
        self.assertEqual([name for name, _, _ in told], ["w", "z"])
        turned = (TWO[0], TWO[1][::-1], TWO[2], TWO[3])
        self.assertEqual(hurtful(turned), told[::-1])
        # All are measured by the cost with all lines.
        self.assertEqual(len(set(cost for _, cost, _ in told)), 1)

    def test_wrong_grids(self):
        for value in WRONG:
            with self.assertRaises(BadGrid):
                hurtful(value)


if __name__ == "__main__":
    unittest.main()
