import unittest
from fractions import Fraction
from math import gcd
from random import Random

from tests.sums import is_cheapest_told
from tests.support import (
    LOOP, PARALLEL, RING, SINGLE, TRIANGLE, WRONG, fractions, ratios, some_full_grid, some_joined_grid, written,
)
from wattkeep.dispatch import cheapest, flows_of, shows_cheapest
from wattkeep.errors import BadGrid, BadLine, BadPlan
from wattkeep.sheets import judge_sheet, sheet_of

RING_SHEET = """made p is 10/3
made q is 8/3
line x flow 4/3 rent 0
line y flow -1/3 rent 0
line z flow 2 rent 20/3
price a is 1
price b is 8/3
price c is 6
balance a p 10/3 x -4/3 z -2
balance b m -1 x 4/3 y -1/3
balance c q 8/3 n -5 o 0 y 1/3 z 2
pulls a x 5/3 z -5/3
pulls b x -5/3 y 5/3
pulls c y -5/3 z 5/3"""
# Numbers that are not so written.
NO_NUMBERS = (
    "x", "+1", "01", "-01", "-0", "0/1", "3/1", "-3/1", "2/4", "1/0", "0/5", "-0/3", "1/", "/2", "1/-2", "--1", "1//2",
    "1/2/3", "1.5", "1e3", "\u0663", "\u00b2", "-", "/", "1_0", "1/02", "03/2", "is", "None", "1,5",
)


def plan_of(grid):
    word, plan, paper = cheapest(grid)
    assert word == "plan"
    return plan, paper


def right_rows(grid, plan, paper):
    """Return the rows that point 38 tells, with Fractions."""
    made, flows = fractions(plan[0]), fractions(flows_of(grid, plan))
    prices, rents = [fractions(part) for part in paper]
    price = dict(zip(grid[0], prices))
    rows = [f"made {plant[0]} is {written(part)}" for plant, part in zip(grid[2], made)]
    rows += [f"line {line[0]} flow {written(flow)} rent {written(rent)}" for line, flow, rent in zip(grid[1], flows, rents)]
    rows += [f"price {node} is {written(price[node])}" for node in grid[0]]
    pulls = []
    for node in grid[0]:
        words, others = ["balance", node], ["pulls", node]
        for plant, part in zip(grid[2], made):
            words += [plant[0], written(part)] if plant[1] == node else []
        for load in grid[3]:
            words += [load[0], str(-load[2])] if load[1] == node else []
        for line, flow, rent in zip(grid[1], flows, rents):
            if node in line[1:3]:
                way = 1 if line[1] == node else -1
                words += [line[0], written(-way * flow)]
                others += [line[0], written(way * (price[line[2]] - price[line[1]] - rent) / line[3])]
        rows.append(" ".join(words))
        pulls.append(" ".join(others))
    return rows + pulls


def some_planned(random, count):
    """Return grids with plans and papers that cheapest tells of them."""
    found = []
    while len(found) < count:
        grid = random.choice([some_joined_grid, some_full_grid])(random)
        told = cheapest(grid)
        if told[0] == "plan":
            found.append((grid, *told[1:]))
    return found


class SheetOf(unittest.TestCase):
    def test_by_hand(self):
        self.assertEqual(sheet_of(RING, *plan_of(RING)), RING_SHEET)
        self.assertEqual(sheet_of(SINGLE, ((), ()), (ratios(Fraction(-7, 2)), ())), "price a is -7/2\nbalance a\npulls a")

    def test_sums(self):
        random = Random(211)
        halves, below = 0, 0
        for grid, plan, paper in some_planned(random, 150):
            sheet = sheet_of(grid, plan, paper)
            self.assertEqual(sheet.split("\n"), right_rows(grid, plan, paper))
            self.assertIs(judge_sheet(grid, sheet), True)
            for row in sheet.split("\n"):
                words = row.split(" ")
                if words[0] in ("balance", "pulls"):
                    self.assertEqual(sum(Fraction(word) for word in words[3::2]), 0)
            halves += "/" in sheet
            below += " rent -" in sheet
        self.assertGreater(min(halves, below), 10)

    def test_wrong_arguments(self):
        plan, paper = plan_of(RING)
        other = plan_of(PARALLEL)
        plans = (
            ((plan[0], ratios(1, 0, 0)), paper), ((ratios(3, 3), plan[1]), paper), ((plan[0], plan[1][:2]), paper), other,
            (plan, (paper[0], ratios(0, 0, 6))), (plan, (ratios(1, 2, 6), paper[1])), (plan, other[1]), (other[0], paper),
            (plan, paper + paper), (plan, list(paper)), (list(plan), paper), (("plan", plan, paper), paper),
            # A plan that holds, but costs too much.
            ((ratios(1, 5), ratios(0, 0, 0)), (ratios(6, 6, 6), ratios(0, 0, 0))),
        )
        for wrong in plans:
            self.assertIs(shows_cheapest(RING, ("plan", *wrong)), False)
            with self.assertRaises(BadPlan, msg=wrong):
                sheet_of(RING, *wrong)
        for value in WRONG:
            with self.assertRaises(BadPlan, msg=value):
                sheet_of(RING, plan, value)
            with self.assertRaises(BadPlan, msg=value):
                sheet_of(RING, value, paper)
            with self.assertRaises(BadGrid, msg=value):
                sheet_of(value, value, value)

    def test_numbers_of_many_digits(self):
        for price in (10 ** 60, 10 ** 60 - 1, 10 ** 61, -10 ** 120 - 7, Fraction(10 ** 59 + 1, 10 ** 200), 10 ** 400 + 3):
            price = Fraction(price)
            sheet = sheet_of(SINGLE, ((), ()), (ratios(price), ()))
            self.assertEqual(sheet.split("\n")[0], "price a is " + written(price))
            self.assertIs(judge_sheet(SINGLE, sheet), True)
        # Python's own str and int would take no more than 4300 digits.
        sheet = sheet_of(SINGLE, ((), ()), (((7 * 10 ** 5000, 9 ** 5000),), ()))
        self.assertTrue(sheet.startswith("price a is 7" + "0" * 5000 + "/"))
        self.assertIs(judge_sheet(SINGLE, sheet), True)


class JudgeSheet(unittest.TestCase):
    def fails(self, text, line, word):
        with self.assertRaises(BadLine, msg=text) as raised:
            judge_sheet(RING, text)
        self.assertEqual((raised.exception.line, raised.exception.word), (line, word), text)

    def put(self, at, row):
        """Return the sheet of the ring with another row in a place."""
        rows = RING_SHEET.split("\n")
        return "\n".join(rows[:at] + [row] + rows[at + 1:])

    def test_rows_in_any_order(self):
        random = Random(212)
        for grid, plan, paper in some_planned(random, 60) + [(RING, *plan_of(RING))] * 20:
            rows = sheet_of(grid, plan, paper).split("\n")
            random.shuffle(rows)
            self.assertIs(judge_sheet(grid, "\n".join(rows)), True)
            self.assertIs(judge_sheet(grid, "\n".join(rows[::-1])), True)

    def test_a_row_too_few_or_too_many(self):
        random = Random(213)
        for grid, plan, paper in some_planned(random, 20) + [(RING, *plan_of(RING))]:
            rows = sheet_of(grid, plan, paper).split("\n")
            for at in range(len(rows)):
                if len(rows) > 1:
                    self.assertIs(judge_sheet(grid, "\n".join(rows[:at] + rows[at + 1:])), False)
            for row in ("made zz is 0", "line zz flow 0 rent 0", "price zz is 0", "balance zz", "pulls zz", "word name", "made a is 0"):
                self.assertIs(judge_sheet(grid, "\n".join(rows + [row])), False)
                self.assertIs(judge_sheet(grid, "\n".join([row] + rows)), False)

    def test_a_number_bent(self):
        random = Random(214)
        bent = 0
        for grid, plan, paper in some_planned(random, 30) + [(RING, *plan_of(RING)), (LOOP, *plan_of(LOOP))]:
            rows = [row.split(" ") for row in sheet_of(grid, plan, paper).split("\n")]
            for at, words in enumerate(rows):
                for place in range(3, len(words), 2):
                    for more in (1, -1, Fraction(1, 7)):
                        other = words[:place] + [written(Fraction(words[place]) + more)] + words[place + 1:]
                        text = "\n".join(" ".join(row) for row in rows[:at] + [other] + rows[at + 1:])
                        self.assertIs(judge_sheet(grid, text), words[0] == "price" and self.is_right(grid, plan, text), text)
                        bent += 1
        self.assertGreater(bent, 500)

    def is_right(self, grid, plan, text):
        """Tell whether a sheet is that of a plan and the prices that it tells: some may be others, where none matters."""
        prices = {row.split(" ")[1]: Fraction(row.split(" ")[3]) for row in text.split("\n") if row.startswith("price")}
        rents = {row.split(" ")[1]: Fraction(row.split(" ")[5]) for row in text.split("\n") if row.startswith("line")}
        paper = (ratios(*[prices[node] for node in grid[0]]), ratios(*[rents[line[0]] for line in grid[1]]))
        return is_cheapest_told(grid, ("plan", plan, paper)) and right_rows(grid, plan, paper) == text.split("\n")

    def test_two_numbers_bent_that_add_up(self):
        for at, row in (
            (8, "balance a p 13/3 x -7/3 z -2"), (9, "balance b m -2 x 7/3 y -1/3"), (10, "balance c q 8/3 n -4 o -1 y 1/3 z 2"),
            (11, "pulls a x 0 z 0"), (12, "pulls b x 1 y -1"), (13, "pulls c y 5/3 z -5/3"),
        ):
            self.assertIs(judge_sheet(RING, self.put(at, row)), False)

    def test_pairs_in_another_place(self):
        for at, row in (
            (2, "line x rent 0 flow 4/3"), (8, "balance a x -4/3 p 10/3 z -2"), (8, "balance a p 10/3 z -2 x -4/3"),
            (10, "balance c n -5 q 8/3 o 0 y 1/3 z 2"), (11, "pulls a z -5/3 x 5/3"), (11, "pulls a x 5/3 z -5/3 y 0"),
            (8, "balance a p 10/3 x -4/3 z -2 y 0"), (10, "balance c q 8/3 n -5 y 1/3 z 2"), (0, "made p was 10/3"),
            (0, "made p is 10/3 is 10/3"), (0, "made p"), (2, "line x flow 4/3"), (5, "price a = 1"), (8, "balance a"),
            (8, "Balance a p 10/3 x -4/3 z -2"), (8, "balance a p 10/3 x -4/3 y -2"), (11, "pulls a x 5/3 x -5/3"),
        ):
            self.assertIs(judge_sheet(RING, self.put(at, row)), False, row)

    def test_words_with_more_spaces(self):
        for at, row in ((0, "made p  is 10/3"), (0, " made p is 10/3"), (0, "made p is 10/3 "), (9, "balance b m -1   x 4/3 y -1/3")):
            self.assertIs(judge_sheet(RING, self.put(at, row)), False)

    def test_sheets_of_other_plans(self):
        # A plan that holds but costs too much, with prices at which nothing is wrong but what p makes.
        rows = right_rows(RING, (ratios(1, 5), ratios(0, 0, 0)), (ratios(6, 6, 6), ratios(0, 0, 0)))
        self.assertIs(judge_sheet(RING, "\n".join(rows)), False)
        # The cheapest plan, a paper that does not show it, and one whose pulls do not balance.
        plan, paper = plan_of(RING)
        for other in ((ratios(1, 1, 1), ratios(0, 0, 0)), (ratios(6, 6, 6), ratios(0, 0, 0)), (paper[0], ratios(0, 0, 5))):
            self.assertIs(judge_sheet(RING, "\n".join(right_rows(RING, plan, other))), False)
        self.assertIs(judge_sheet(RING, "\n".join(right_rows(RING, plan, paper))), True)
        # The sheet of one grid is none of another one.
        for grid in (SINGLE, TRIANGLE, PARALLEL, LOOP):
            self.assertIs(judge_sheet(grid, RING_SHEET), False)
        # There is no plan at all that sheds nothing.
        none = (("a",), (), (("p", "a", 3, 1),), (("n", "a", 5, 9),))
        self.assertIs(judge_sheet(none, "made p is 3\nprice a is 9\nbalance a p 3 n -3\npulls a"), False)
        self.assertIs(judge_sheet(none, "made p is 5\nprice a is 1\nbalance a p 5 n -5\npulls a"), False)

    def test_other_cheapest_plans(self):
        grid = (("a",), (), (("p", "a", 5, 1), ("q", "a", 5, 1)), (("n", "a", 5, 50),))
        for made in ((5, 0), (0, 5), (2, 3), (Fraction(1, 3), Fraction(14, 3))):
            sheet = sheet_of(grid, (ratios(*made), ratios(0)), (ratios(1), ()))
            self.assertIs(judge_sheet(grid, sheet), True)
        for price in (Fraction(-5, 7), 0, 12):
            self.assertIs(judge_sheet(SINGLE, f"pulls a\nbalance a\nprice a is {written(Fraction(price))}"), True)

    def test_rows_without_word_and_name(self):
        for row in ("", "made", " ", "word", "   word ", "11/3"):
            count = len(row.split())
            for at in range(14):
                self.fails(self.put(at, row), at + 1, count + 1)
            self.fails(RING_SHEET + "\n" + row, 15, count + 1)
            self.fails(row, 1, count + 1)

    def test_names_without_a_number(self):
        for row in ("made p is", "made p is 11/3 is", "balance a p", "balance a p x x", "word name 3", "made p is x is x is"):
            for at in (0, 6, 13):
                self.fails(self.put(at, row), at + 1, len(row.split(" ")) + 1)

    def test_numbers_that_are_not_so_written(self):
        for number in NO_NUMBERS:
            self.fails(self.put(0, "made p is " + number), 1, 4)
            self.fails(self.put(4, "line z flow 2 rent " + number), 5, 6)
            self.fails(self.put(4, f"line z flow {number} rent {number}"), 5, 4)
            self.fails(self.put(13, f"word name a 1 b -1/2 c {number} d ?"), 14, 8)
        for top in range(-6, 7):
            for low in range(1, 7):
                word = f"{top}/{low}"
                if low > 1 and gcd(top, low) == 1:
                    self.assertIs(judge_sheet(RING, self.put(0, "made p is " + word)), False)
                else:
                    self.fails(self.put(0, "made p is " + word), 1, 4)

    def test_words_and_names_that_stood_before(self):
        rows = RING_SHEET.split("\n")
        for at, row in enumerate(rows):
            self.fails(RING_SHEET + "\n" + row, 15, 2)
            self.fails(row + "\n" + RING_SHEET, at + 2, 2)
            self.fails(RING_SHEET + "\n" + " ".join(row.split(" ")[:2]) + " is 1", 15, 2)
        self.fails("word name\nword name a 1", 2, 2)
        self.assertIs(judge_sheet(RING, "word name\nname word"), False)

    def test_the_first_row_and_in_it_the_first_case(self):
        # A name without a number, then a number not so written, then a word and name that stood before.
        for row, word in (("made p is x is", 6), ("made p is x", 4), ("made p is 1", 2), ("made", 2), ("made p is", 4)):
            self.fails(RING_SHEET + "\n" + row, 15, word)
        self.fails("made p is x\nmade", 1, 4)
        self.fails("made p is 1\nmade p is 1\nmade p is x\nmade", 2, 2)
        self.fails("made\nmade p is x", 1, 2)

    def test_what_is_no_string(self):
        for value in WRONG + (b"", (RING_SHEET,), [RING_SHEET], 7):
            if not isinstance(value, str):
                self.fails(value, 1, 1)
        self.fails("", 1, 1)
        for value in WRONG:
            with self.assertRaises(BadGrid, msg=value):
                judge_sheet(value, value)


if __name__ == "__main__":
    unittest.main()
