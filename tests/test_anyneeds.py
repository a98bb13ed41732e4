import unittest
from itertools import product
from random import Random

from tests.sums import is_cheapest_told, is_least_told, loss_of, try_bent
from tests.support import SINGLE, WRONG, fraction, ratio, ratios, some_full_grid, some_joined_grid
from wattkeep.anyneeds import shows_surely, shows_worst, surely, worst
from wattkeep.dispatch import cheapest
from wattkeep.errors import BadGrid, BadHours
from wattkeep.shedding import least_shed, lost

ONE_LOAD = (("a",), (), (("p", "a", 4, 1),), (("n", "a", 6, 5),))
# 2 at most come to n over the line, and 3 from the plant beside it.
NARROW = (
    ("a", "b"), (("x", "a", "b", 1, 2),), (("p", "a", 8, 1), ("q", "b", 3, 4)), (("m", "a", 6, 9), ("n", "b", 5, 20)),
)
# Two lines side by side, of which y is full first, at 3 in all.
PULLED = (
    ("a", "b"), (("x", "a", "b", 1, 3), ("y", "a", "b", 2, 1)), (("p", "a", 9, 1),), (("m", "a", 5, 9), ("n", "b", 3, 20)),
)
SIX = (("a",), (), (("p", "a", 9, 1),), tuple(("n" + str(at), "a", 1, 0) for at in range(6)))


def corners_of(grid, lows):
    return sorted(set(product(*[(low, load[2]) for low, load in zip(lows, grid[3])])))


def corner_grid(grid, needs):
    loads = tuple((name, node, need, worth) for (name, node, _, worth), need in zip(grid[3], needs))
    return (grid[0], grid[1], grid[2], loads)


def grids_of(grid, lows):
    return [corner_grid(grid, corner) for corner in corners_of(grid, lows)]


def is_sure(grid, lows, value):
    """Tell whether (truth, tolds) is as point 26 says."""
    right, tolds = value
    grids = grids_of(grid, lows)
    if not isinstance(right, bool) or not isinstance(tolds, tuple) or len(tolds) != len(grids):
        return False
    if not all(is_cheapest_told(known, told) for known, told in zip(grids, tolds)):
        return False
    return right == all(told[0] == "plan" for told in tolds)


def is_worst(grid, lows, value):
    """Tell whether (worth, needs, tolds) is as point 27 says."""
    worth, needs, tolds = value
    grids = grids_of(grid, lows)
    if not isinstance(tolds, tuple) or len(tolds) != len(grids):
        return False
    if not all(is_least_told(known, told) for known, told in zip(grids, tolds)):
        return False
    losses = [loss_of(known, told[0]) for known, told in zip(grids, tolds)]
    first = corners_of(grid, lows)[losses.index(max(losses))]
    return fraction(worth) == max(losses) and repr(needs) == repr(first)


def some_lows(random, grid):
    lows = [random.choice([load[2], 0, random.randint(0, load[2])]) for load in grid[3]]
    while sum(low < load[2] for low, load in zip(lows, grid[3])) > 4:
        at = random.randrange(len(lows))
        lows[at] = grid[3][at][2]
    return tuple(lows)


def some_case(random):
    grid = random.choice([some_full_grid, some_joined_grid])(random)
    return grid, some_lows(random, grid)


class Surely(unittest.TestCase):
    def test_by_hand(self):
        for grid, lows, right in (
            (ONE_LOAD, (6,), False), (ONE_LOAD, (1,), False), (NARROW, (0, 0), True), (NARROW, (6, 5), True),
            (NARROW, (0, 5), True), (SINGLE, (), True), (PULLED, (5, 3), True), (PULLED, (0, 0), True),
            (ONE_LOAD[:3] + ((("n", "a", 4, 5),),), (0,), True),
            # More than 5 cannot come to b.
            (NARROW[:3] + ((("m", "a", 6, 9), ("n", "b", 6, 20)),), (6, 0), False),
            # p cannot make what both need, 12.
            (NARROW[:3] + ((("m", "a", 9, 9), ("n", "b", 3, 20)),), (8, 3), False),
        ):
            told = surely(grid, lows)
            self.assertIs(told[0], right, (grid, lows))
            self.assertTrue(is_sure(grid, lows, told))

    def test_just_one_corner_without_a_plan(self):
        # What either load needs alone there is, but not what both do.
        grid = (("a",), (), (("p", "a", 9, 1),), (("m", "a", 5, 9), ("n", "a", 5, 20)))
        told = surely(grid, (4, 4))
        self.assertEqual([part[0] for part in told[1]], ["plan", "plan", "plan", "none"])
        self.assertIs(told[0], False)
        self.assertTrue(is_sure(grid, (4, 4), told))
        worths = [loss_of(known, part[0]) for known, part in zip(grids_of(grid, (4, 4)), worst(grid, (4, 4))[2])]
        self.assertEqual(worths, [0, 0, 0, 9])

    def test_a_low_may_be_the_corner_without_a_plan(self):
        # When b takes less, y bears more: 4/3 if m needs 1.
        grid = (
            ("a", "b", "c"), (("x", "a", "b", 1, 9), ("y", "b", "c", 1, 1), ("z", "a", "c", 1, 6)),
            (("p", "a", 20, 1),), (("m", "b", 6, 9), ("n", "c", 5, 9)),
        )
        told = surely(grid, (1, 5))
        self.assertEqual([part[0] for part in told[1]], ["none", "plan"])
        self.assertIs(told[0], False)
        self.assertTrue(is_sure(grid, (1, 5), told))
        self.assertEqual(worst(grid, (1, 5))[1], (1, 5))

    def test_corners_are_unlike_and_in_order(self):
        for lows, corners in (
            ((6, 5), [(6, 5)]), ((2, 5), [(2, 5), (6, 5)]), ((6, 0), [(6, 0), (6, 5)]),
            ((0, 1), [(0, 1), (0, 5), (6, 1), (6, 5)]),
        ):
            self.assertEqual(corners_of(NARROW, lows), corners)
            self.assertEqual(surely(NARROW, lows)[1], tuple(cheapest(corner_grid(NARROW, corner)) for corner in corners))
            self.assertEqual(worst(NARROW, lows)[2], tuple(least_shed(corner_grid(NARROW, corner)) for corner in corners))

    def test_lows_for_five(self):
        for lows, count in (((0, 0, 0, 0, 0, 1), 32), ((1, 0, 0, 0, 0, 0), 32), ((1, 1, 1, 1, 1, 1), 1)):
            told = surely(SIX, lows)
            self.assertEqual((told[0], len(told[1])), (True, count))
            self.assertIs(shows_surely(SIX, lows, told), True)

    def test_a_need_of_0(self):
        grid = ONE_LOAD[:3] + ((("n", "a", 0, 5),),)
        self.assertEqual(len(surely(grid, (0,))[1]), 1)
        self.assertEqual(worst(grid, (0,))[:2], ((0, 1), (0,)))

    def test_sums(self):
        random = Random(151)
        words = []
        for _ in range(60):
            grid, lows = some_case(random)
            told = surely(grid, lows)
            words.append((told[0], len(set(part[0] for part in told[1]))))
            self.assertTrue(is_sure(grid, lows, told), (grid, lows))
            self.assertIs(shows_surely(grid, lows, told), True)
        for known in ((True, 1), (False, 1), (False, 2)):
            self.assertGreater(words.count(known), 3, words)

    def test_wrong_lows(self):
        for lows in WRONG + ((), (1,), (1, 2, 3), [1, 2], (7, 5), (6, 6), (-1, 0), (1, True), (False, 1), (None, 1), ("1", 1),
                             "12", {0: 1, 1: 1}, ((1, 1), (1, 1))):
            for call in (surely, worst, lambda *args: shows_surely(*args, None), lambda *args: shows_worst(*args, None)):
                with self.assertRaises(BadHours, msg=lows):
                    call(NARROW, lows)
                with self.assertRaises(BadGrid):
                    call({}, lows)
        for call in (surely, worst, lambda *args: shows_surely(*args, None), lambda *args: shows_worst(*args, None)):
            with self.assertRaises(BadHours):
                call(SIX, (0,) * 6)


class ShowsSurely(unittest.TestCase):
    def test_other_right_answers(self):
        right, tolds = surely(ONE_LOAD, (1,))
        for price, shown in ((1, True), (7, True), (0, False)):
            other = (tolds[0], ("none", (ratios(price), ())))
            self.assertIs(shows_surely(ONE_LOAD, (1,), (False, other)), shown)
        for head in (True, 0, None, (), "no", (False,)):
            self.assertIs(shows_surely(ONE_LOAD, (1,), (head, tolds)), False)
        told = surely(NARROW, (0, 0))
        for head, shown in ((True, True), (1, False), (False, False), ((1, 1), False)):
            self.assertIs(shows_surely(NARROW, (0, 0), (head, told[1])), shown)

    def test_bent_in_one_place(self):
        random = Random(152)
        falses = 0
        lots = [(ONE_LOAD, (1,)), (PULLED, (5, 1)), (SINGLE, ())]
        while len(lots) < 8:
            grid, lows = some_case(random)
            if len(grid[0]) < 5 and len(corners_of(grid, lows)) < 5:
                lots.append((grid, lows))
        for grid, lows in lots:
            falses += try_bent(
                self, surely(grid, lows), lambda told: is_sure(grid, lows, told),
                lambda told: shows_surely(grid, lows, told),
            )
        self.assertGreater(falses, 1000)

    def test_values_of_other_kinds(self):
        right, tolds = surely(NARROW, (0, 5))
        for value in WRONG + ((right,), (tolds,), (tolds, right), (right, tolds, right), (right, tolds[:1]), [right, tolds],
                              (right, tolds + tolds[:1]), (right, list(tolds)), (right, None), (right, tolds[0]), (),
                              (right, tolds[::-1]), worst(NARROW, (0, 5)), (True, worst(NARROW, (0, 5))[2])):
            self.assertIs(shows_surely(NARROW, (0, 5), value), False, value)
            with self.assertRaises(BadGrid):
                shows_surely(0, (0, 5), value)


class Worst(unittest.TestCase):
    def test_by_hand(self):
        for grid, lows, worth, needs in (
            (ONE_LOAD, (1,), 10, (6,)), (ONE_LOAD, (6,), 10, (6,)), (SINGLE, (), 0, ()),
            # Nothing is lost anywhere: the first corner is told.
            (NARROW, (0, 0), 0, (0, 0)), (NARROW, (3, 5), 0, (3, 5)),
            # 5 come to b, 1 of 6 is lost whatever m needs: the first corner with it.
            (NARROW[:3] + ((("m", "a", 6, 9), ("n", "b", 6, 20)),), (2, 3), 20, (2, 6)),
            (NARROW[:3] + ((("n", "b", 6, 20), ("m", "a", 6, 9)),), (3, 2), 20, (6, 2)),
        ):
            told = worst(grid, lows)
            self.assertEqual(told[:2], (ratio(worth), needs), (grid, lows))
            self.assertTrue(is_worst(grid, lows, told))

    def test_no_needs_between_lose_more(self):
        random = Random(153)
        for _ in range(40):
            grid, lows = some_case(random)
            most = fraction(worst(grid, lows)[0])
            for _ in range(5):
                needs = tuple(random.randint(low, load[2]) for low, load in zip(lows, grid[3]))
                known = corner_grid(grid, needs)
                self.assertLessEqual(fraction(lost(known, least_shed(known)[0])), most)

    def test_sums(self):
        random = Random(154)
        zeros, lowers = 0, 0
        for _ in range(60):
            grid, lows = some_case(random)
            told = worst(grid, lows)
            zeros += told[0] == (0, 1)
            lowers += told[1] != tuple(load[2] for load in grid[3])
            self.assertTrue(is_worst(grid, lows, told), (grid, lows))
            self.assertIs(shows_worst(grid, lows, told), True)
        self.assertTrue(3 < zeros < 57 and lowers > 3, (zeros, lowers))


class ShowsWorst(unittest.TestCase):
    def test_other_heads(self):
        grid = (("a",), (), (), (("n", "a", 1, 1),))
        worth, needs, tolds = worst(grid, (0,))
        self.assertEqual((worth, needs), ((1, 1), (1,)))
        for head in (((True, 1), (1,)), ((1, True), (1,)), ((1, 1), (True,)), ((1, 1), (0,)), ((0, 1), (1,)), (1, (1,)),
                     ((2, 2), (1,)), ([1, 1], (1,)), ((1, 1), [1]), ((1, 1), ((1, 1),)), ((1, 1), 1), ((1, 1), None)):
            self.assertIs(shows_worst(grid, (0,), (*head, tolds)), False, head)
        self.assertIs(shows_worst(grid, (0,), (worth, needs, tolds)), True)
        # Of corners at which as much is lost the first one alone.
        even = NARROW[:3] + ((("m", "a", 6, 9), ("n", "b", 6, 20)),)
        worth, _, tolds = worst(even, (2, 3))
        for needs, right in (((2, 6), True), ((6, 6), False), ((2, 3), False)):
            self.assertIs(shows_worst(even, (2, 3), (worth, needs, tolds)), right)

    def test_other_right_answers(self):
        worth, needs, tolds = worst(ONE_LOAD, (1,))
        for price, right in ((5, True), (4, False), (6, False)):
            other = (tolds[0], ((ratios(4), ratios(2)), (ratios(price), ())))
            self.assertIs(shows_worst(ONE_LOAD, (1,), (worth, needs, other)), right)

    def test_bent_in_one_place(self):
        random = Random(155)
        falses = 0
        lots = [(ONE_LOAD, (1,)), (PULLED, (5, 1)), (SINGLE, ())]
        while len(lots) < 8:
            grid, lows = some_case(random)
            if len(grid[0]) < 5 and len(corners_of(grid, lows)) < 5:
                lots.append((grid, lows))
        for grid, lows in lots:
            falses += try_bent(
                self, worst(grid, lows), lambda told: is_worst(grid, lows, told),
                lambda told: shows_worst(grid, lows, told),
            )
        self.assertGreater(falses, 1000)

    def test_values_of_other_kinds(self):
        told = worst(ONE_LOAD, (1,))
        worth, needs, tolds = told
        for value in WRONG + (told[:2], told[1:], told + (0,), (tolds, needs, worth), list(told), (worth, needs, tolds[:1]),
                              (worth, needs, tolds + tolds[:1]), (worth, needs, tolds[::-1]), (worth, needs, list(tolds)),
                              (worth, needs, None), (worth, needs, tolds[0]), (worth, needs, surely(ONE_LOAD, (1,))[1])):
            self.assertIs(shows_worst(ONE_LOAD, (1,), value), False, value)
            with self.assertRaises(BadGrid):
                shows_worst(None, (1,), value)


if __name__ == "__main__":
    unittest.main()
