import unittest
from fractions import Fraction
from random import Random

from tests.sums import is_told, product
from tests.support import WRONG, fraction, fractions, ratio, ratios, some_ratio
from wattkeep.errors import BadProgram
from wattkeep.programs import best, shows_best


def program(costs, rows, rights):
    return (ratios(*costs), tuple(ratios(*row) for row in rows), ratios(*rights))


BEALE = program(
    (Fraction(-3, 4), 150, Fraction(-1, 50), 6),
    ((Fraction(1, 4), -60, Fraction(-1, 25), 9), (Fraction(1, 2), -90, Fraction(-1, 50), 3), (0, 0, 1, 0)),
    (0, 0, 1),
)
KUHN = program(
    (-2, -3, 1, 12),
    ((-2, -9, 1, 9), (Fraction(1, 3), 1, Fraction(-1, 3), -2), (2, 3, -1, -12)),
    (0, 0, 2),
)
CASES = (
    # The right answer's word, and what the costs are of its point.
    ("best", Fraction(0), program((1,), (), ())),
    ("best", Fraction(0), program((0, 0), (), ())),
    ("endless", None, program((-1,), (), ())),
    ("endless", None, program((1, -1), (), ())),
    ("best", Fraction(-3, 2), program((-1,), ((2,),), (3,))),
    ("best", Fraction(0), program((-1,), ((1,),), (0,))),
    ("endless", None, program((-1,), ((-1,),), (0,))),
    ("none", None, program((1,), ((1,),), (-1,))),
    ("none", None, program((-1,), ((0,),), (-1,))),
    ("none", None, program((0,), ((1,), (-1,)), (1, -2))),
    ("none", None, program((-1, -1), ((1, 1), (-1, -1)), (1, -2))),
    ("best", Fraction(2), program((1,), ((-1,),), (-2,))),
    ("best", Fraction(2), program((1, 1), ((-1, -1), (1, 1)), (-2, 2))),
    ("best", Fraction(-12), program((-2, -3), ((1, 1), (1, 3)), (4, 8))[:2] + (ratios(4, 12),)),
    ("best", Fraction(-1, 20), BEALE),
    ("best", Fraction(-2), KUHN),
    # Rows that hang on others.
    ("best", Fraction(-3), program((-1, -1), ((1, 0), (0, 1), (1, 1), (2, 2), (3, 0)), (1, 2, 3, 6, 3))),
    ("endless", None, program((-1, 0), ((1, -1), (2, -2), (-1, 1)), (0, 0, 0))),
    ("none", None, program((1, 1), ((1, -1), (-1, 1), (-1, -1), (1, 1)), (0, 0, -4, 3))),
    # Equal costs all along a row.
    ("best", Fraction(-5), program((-1, -1), ((1, 1),), (5,))),
)


def some_program(random):
    wide, high = random.randint(1, 6), random.randint(0, 8)
    kind = random.randint(0, 2)
    costs = tuple(some_ratio(random, 5, 3) for _ in range(wide))
    rows = [tuple(some_ratio(random, 3, 1 + kind) for _ in range(wide)) for _ in range(high)]
    rights = [some_ratio(random, 6, 3) if kind else ratio(random.randint(-1, 3)) for _ in rows]
    if high > 2 and random.randint(0, 1):
        # A row that hangs on others, and one that turns it.
        one, other = fractions(rows[0]), fractions(rows[1])
        rows[2] = ratios(*[2 * a + b for a, b in zip(one, other)])
        rights[2] = ratio(2 * fraction(rights[0]) + fraction(rights[1]))
        rows[-1] = ratios(*[-part for part in fractions(rows[2])])
        rights[-1] = ratio(-fraction(rights[2]))
    return (costs, tuple(rows), tuple(rights))


def bent(told):
    """Return the answer bent in one place, for each place and some ways to bend."""
    found = [told + ((),), told[:-1], ("none",) + told[1:], ("beste",) + told[1:], list(told), (None,) + told[1:]]
    for at in range(1, len(told)):
        part = told[at]
        for made in (part + ((0, 1),), part[:-1], list(part), None, "", 3):
            if made != part:
                found.append(told[:at] + (made,) + told[at + 1:])
        for place, number in enumerate(part):
            top, low = number
            for other in ((top + low, low), (top - low, low), (2 * top, 2 * low), [top, low], top, (top, -low), True):
                found.append(told[:at] + (part[:place] + (other,) + part[place + 1:],) + told[at + 1:])
    return [made for made in found if made != told]


class Best(unittest.TestCase):
    def test_by_hand(self):
        for word, costs, case in CASES:
            told = best(case)
            self.assertEqual(told[0], word, case)
            self.assertTrue(is_told(case, told), case)
            if word == "best":
                self.assertEqual(product(fractions(case[0]), fractions(told[1])), costs)

    def test_sums(self):
        random = Random(51)
        words = []
        for _ in range(400):
            case = some_program(random)
            told = best(case)
            words.append(told[0])
            self.assertTrue(is_told(case, told), case)
            self.assertEqual(best(case), told)
        self.assertEqual(set(words), {"best", "none", "endless"})

    def test_many_rows_met_at_once(self):
        random = Random(52)
        for _ in range(60):
            wide, high = random.randint(2, 9), random.randint(2, 14)
            rows = [[random.choice((-1, 0, 0, 1, 2)) for _ in range(wide)] for _ in range(high)]
            rows.append([1] * wide)
            rights = [random.choice((0, 0, 0, 0, 1)) for _ in range(high)] + [7]
            case = program([random.randint(-5, 2) for _ in range(wide)], rows, rights)
            told = best(case)
            self.assertEqual(told[0], "best")
            self.assertTrue(is_told(case, told))

    def test_pairing(self):
        # Each of six workers does one of six jobs: of the 720 best corners many rows are met at each.
        count = 6
        random = Random(53)
        costs = [random.randint(1, 9) for _ in range(count * count)]
        rows = [[int(at // count == k) for at in range(count * count)] for k in range(count)]
        rows += [[int(at % count == k) for at in range(count * count)] for k in range(count)]
        rows += [[-part for part in row] for row in rows]
        case = program(costs, rows, [1] * (2 * count) + [-1] * (2 * count))
        told = best(case)
        self.assertEqual(told[0], "best")
        self.assertTrue(is_told(case, told))

    def test_a_cube_that_is_bent(self):
        # Klee and Minty: from 0 a search may walk over all corners.
        count = 8
        rows = [[2 ** (k - at + 1) if at < k else int(at == k) for at in range(count)] for k in range(count)]
        case = program([-(2 ** (count - 1 - at)) for at in range(count)], rows, [5 ** (k + 1) for k in range(count)])
        told = best(case)
        self.assertTrue(is_told(case, told))
        self.assertEqual(told[1][-1], ratio(5 ** count))

    def test_at_the_bounds(self):
        random = Random(54)
        costs = [random.randint(-9, 9) for _ in range(80)]
        rows = [[random.choice((0, 0, 0, 1, 2, -1)) for _ in range(80)] for _ in range(79)] + [[1] * 80]
        case = program(costs, rows, [random.randint(-3, 9) for _ in range(79)] + [50])
        self.assertTrue(is_told(case, best(case)))
        self.assertIs(shows_best(case, best(case)), True)


class ShowsBest(unittest.TestCase):
    def test_true_of_what_best_tells(self):
        random = Random(55)
        for case in [case for _, _, case in CASES] + [some_program(random) for _ in range(150)]:
            self.assertIs(shows_best(case, best(case)), True)

    def test_true_of_other_right_answers(self):
        flat = program((-1, -1), ((1, 1),), (5,))
        for point in ((5, 0), (0, 5), (Fraction(5, 2), Fraction(5, 2)), (1, 4)):
            self.assertIs(shows_best(flat, ("best", ratios(*point), ratios(1))), True)
        none = program((0,), ((1,), (-1,)), (1, -2))
        for paper in ((1, 1), (7, 7), (3, 2), (Fraction(1, 9), Fraction(1, 9))):
            self.assertIs(shows_best(none, ("none", ratios(*paper))), True)
        endless = program((-1, 0), ((1, -1),), (3,))
        for point, way in (((0, 0), (1, 1)), ((3, 0), (2, 5)), ((9, 6), (Fraction(1, 2), Fraction(1, 2)))):
            self.assertIs(shows_best(endless, ("endless", ratios(*point), ratios(*way))), True)
        twice = program((-1,), ((1,), (1,)), (2, 2))
        for paper in ((1, 0), (0, 1), (Fraction(1, 3), Fraction(2, 3))):
            self.assertIs(shows_best(twice, ("best", ratios(2), ratios(*paper))), True)

    def test_false_of_what_just_misses(self):
        one = program((-1,), ((2,),), (3,))
        for value in (
            ("best", ratios(1), (ratio(1, 2),)), ("best", (ratio(3, 2),), ratios(1)), ("best", ratios(2), ratios(1)),
            ("best", ratios(0), ratios(0)), ("best", (ratio(5, 2),), (ratio(1, 2),)), ("endless", ratios(0), ratios(1)),
            ("none", ratios(0)), ("none", ratios(1)), ("none", (ratio(-1),)), ("best", (ratio(3, 2),)),
            ("endless", (ratio(3, 2),), (ratio(1, 2),)),
        ):
            self.assertIs(shows_best(one, value), False, value)
        negative = program((1,), ((-1,), (1,)), (-2, 5))
        for value in (
            ("best", ratios(2), ratios(1, -1)), ("best", ratios(2), ratios(2, 0)), ("best", ratios(1), ratios(1, 0)),
            ("best", ratios(-2), ratios(1, 0)), ("best", ratios(3), ratios(1, 0)),
        ):
            self.assertIs(shows_best(negative, value), False, value)
        self.assertIs(shows_best(negative, ("best", ratios(2), ratios(1, 0))), True)
        # Just 0 is not below 0.
        self.assertIs(shows_best(program((0,), (), ()), ("endless", ratios(0), ratios(1))), False)
        self.assertIs(shows_best(program((0,), ((1,), (-1,)), (1, -1)), ("none", ratios(1, 1))), False)

    def test_bent_in_one_place(self):
        random = Random(56)
        for case in [case for _, _, case in CASES] + [some_program(random) for _ in range(60)]:
            for value in bent(best(case)):
                try:
                    expected = isinstance(value, tuple) and len(value) == (2 if value[0] == "none" else 3)
                    expected = expected and is_told(case, value)
                except (AssertionError, ValueError, TypeError):
                    expected = False
                self.assertIs(shows_best(case, value), expected, (case, value))

    def test_values_of_other_kinds(self):
        case = program((-1,), ((2,),), (3,))
        told = best(case)
        for value in WRONG + (("best",), ("none",), ("best", (), ()), ("none", {}), ("endless", [], ()), (told,), "best",
                              (told[0], told[1], told[2], told[2]), ("best", told[2], told[1]), {"best": told}, list(told)):
            self.assertIs(shows_best(case, value), False, value)


class NoPrograms(unittest.TestCase):
    def test_ways_to_be_none(self):
        row = ((1, 1),)
        for value in WRONG + (
            (), (row, (), ()) + ((),), (row, ()), [row, (), ()], ((), (), ()), ([(1, 1)], (), ()), (row, [], ()),
            (row, (), []), (row, (row,), ()), (row, (), row), (row, (((1, 1), (1, 1)),), row), (row, ((),), row),
            (row, ([(1, 1)],), row), (((2, 2),), (), ()), (((1, 0),), (), ()), (((1, -1),), (), ()),
            (((True, 1),), (), ()), ((1,), (), ()), (row, (((2, 4),),), row), (row, (row,), ((0, 3),)),
            (row, (row,), ((1, True),)), (row, (row,), (1,)), (row, (row,), [(1, 1)]), (row, (row, None), row * 2),
            (row * 81, (), ()), (row, (row,) * 81, row * 81), (row, {}, ()), ("a", (), ()), (row, "", ""),
            (7, (), ()), (None, (), ()), (row, 7, ()), (row, None, None), (row, (), 7), (True, True, True),
        ):
            with self.assertRaises(BadProgram, msg=value):
                best(value)
            with self.assertRaises(BadProgram, msg=value):
                shows_best(value, ("none", ()))

    def test_the_bounds_themselves(self):
        row = ((1, 1),)
        self.assertEqual(best((row * 80, (), ())), ("best", ((0, 1),) * 80, ()))
        self.assertEqual(best((row, (row,) * 80, row * 80)), ("best", ((0, 1),), ((0, 1),) * 80))


if __name__ == "__main__":
    unittest.main()
