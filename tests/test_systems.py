import unittest
from fractions import Fraction
from random import Random

from tests.support import fraction, fractions, ratio, ratios, some_ratio
from wattkeep.errors import BadTable
from wattkeep.systems import inverse, rank, solved


def table(*rows):
    return tuple(ratios(*row) for row in rows)


def some_table(random, high, wide, real):
    """Return a table whose rank is at most real, as a product of two tables."""
    left = [[Fraction(random.randint(-3, 3), random.randint(1, 3)) for _ in range(real)] for _ in range(high)]
    right = [[Fraction(random.randint(-3, 3)) for _ in range(wide)] for _ in range(real)]
    return tuple(
        tuple(ratio(sum((a * row[col] for a, row in zip(parts, right)), Fraction(0))) for col in range(wide))
        for parts in left
    )


def rank_of(rows):
    """Return the rank by plain elimination with Fractions."""
    left = [fractions(row) for row in rows]
    count = 0
    for col in range(len(rows[0])):
        pivot = next((row for row in left if row[col]), None)
        if pivot is not None:
            count += 1
            left = [
                [part - row[col] / pivot[col] * above for part, above in zip(row, pivot)]
                for row in left if row is not pivot
            ]
    return count


def times_rows(rows, x):
    return [sum((fraction(a) * b for a, b in zip(row, x)), Fraction(0)) for row in rows]


class Rank(unittest.TestCase):
    def test_by_hand(self):
        self.assertEqual(rank(table((0,))), 0)
        self.assertEqual(rank(table((5,))), 1)
        self.assertEqual(rank(table((0, 0, 0), (0, 0, 0))), 0)
        self.assertEqual(rank(table((1, 2), (2, 4))), 1)
        self.assertEqual(rank(table((1, 2), (2, 5))), 2)
        self.assertEqual(rank(table((0, 0, 1), (0, 0, 2))), 1)
        self.assertEqual(rank(table((1, 2, 3), (4, 5, 6), (7, 8, 9))), 2)
        self.assertEqual(rank(table((1,), (2,), (3,))), 1)
        self.assertEqual(rank((((1, 3), (1, 2)), ((2, 3), (1, 1)))), 1)

    def test_of_products(self):
        random = Random(2)
        for _ in range(60):
            high, wide = random.randint(1, 7), random.randint(1, 7)
            rows = some_table(random, high, wide, random.randint(1, 5))
            self.assertEqual(rank(rows), rank_of(rows))

    def test_at_the_bounds(self):
        unit = tuple(tuple(ratio(int(at == place)) for at in range(40)) for place in range(40))
        self.assertEqual(rank(unit), 40)
        self.assertEqual(inverse(unit), unit)
        self.assertEqual(rank(unit[:1]), 1)
        random = Random(3)
        full = tuple(tuple(some_ratio(random) for _ in range(40)) for _ in range(40))
        self.assertEqual(rank(full), 40)


class Solved(unittest.TestCase):
    def judge(self, rows, rights, told):
        word, x = told
        if word == "none":
            self.assertEqual(len(x), len(rows))
            y = fractions(x)
            for col in range(len(rows[0])):
                self.assertEqual(sum(fraction(row[col]) * part for row, part in zip(rows, y)), 0)
            self.assertNotEqual(sum(fraction(right) * part for right, part in zip(rights, y)), 0)
        else:
            self.assertEqual(word, "one" if rank_of(rows) == len(rows[0]) else "many")
            self.assertEqual(len(x), len(rows[0]))
            self.assertEqual(times_rows(rows, fractions(x)), fractions(rights))

    def test_by_hand(self):
        self.assertEqual(solved(table((2, 0), (0, 3)), ratios(1, 1)), ("one", ((1, 2), (1, 3))))
        self.assertEqual(solved(table((1,), (2,)), ratios(3, 6)), ("one", ((3, 1),)))
        self.assertEqual(solved(table((0, 1), (1, 0)), ratios(3, 6)), ("one", ((6, 1), (3, 1))))
        for rows, rights, word in (
            (table((1, 1)), ratios(2), "many"),
            (table((0,)), ratios(0), "many"),
            (table((0,)), ratios(5), "none"),
            (table((1, 1), (2, 2)), ratios(1, 2), "many"),
            (table((1, 1), (2, 2)), ratios(1, 3), "none"),
            (table((1,), (2,)), ratios(3, 7), "none"),
            (table((0, 1), (0, 2), (1, 0)), ratios(1, 3, 5), "none"),
        ):
            told = solved(rows, rights)
            self.assertEqual(told[0], word)
            self.judge(rows, rights, told)

    def test_multiplied_out(self):
        random = Random(4)
        words = []
        for _ in range(150):
            high, wide = random.randint(1, 6), random.randint(1, 6)
            rows = some_table(random, high, wide, random.randint(1, 6))
            if random.randint(0, 1):
                rights = tuple(some_ratio(random) for _ in rows)
            else:
                x = [Fraction(random.randint(-5, 5), random.randint(1, 5)) for _ in range(wide)]
                rights = ratios(*times_rows(rows, x))
            told = solved(rows, rights)
            words.append(told[0])
            self.judge(rows, rights, told)
            joint = tuple((*row, right) for row, right in zip(rows, rights))
            self.assertEqual(told[0] == "none", rank_of(joint) > rank_of(rows))
            self.assertEqual(solved(rows, rights), told)
        self.assertEqual(set(words), {"one", "many", "none"})

    def test_at_the_bounds(self):
        random = Random(5)
        rows = tuple(tuple(some_ratio(random, 2, 1) for _ in range(40)) for _ in range(40))
        rights = tuple(some_ratio(random) for _ in rows)
        self.judge(rows, rights, solved(rows, rights))


class Inverse(unittest.TestCase):
    def test_by_hand(self):
        self.assertEqual(inverse(table((4,))), (((1, 4),),))
        self.assertEqual(inverse((((-2, 3),),)), (((-3, 2),),))
        self.assertEqual(inverse(table((0, 2), (1, 0))), (((0, 1), (1, 1)), ((1, 2), (0, 1))))
        self.assertIsNone(inverse(table((0,))))
        self.assertIsNone(inverse(table((1, 2), (2, 4))))

    def test_multiplied_out(self):
        random = Random(6)
        nones = 0
        for _ in range(80):
            count = random.randint(1, 6)
            rows = some_table(random, count, count, random.choice((count, count, max(1, count - 1))))
            found = inverse(rows)
            if rank_of(rows) < count:
                self.assertIsNone(found)
                nones += 1
                continue
            for col in range(count):
                product = times_rows(rows, [fraction(row[col]) for row in found])
                self.assertEqual(product, [int(at == col) for at in range(count)])
        self.assertGreater(nones, 5)


class NoTables(unittest.TestCase):
    ONE = ((1, 1),)
    BAD = (
        (), ((),), ((), ()), [ONE], ([(1, 1)],), (((1, 1),), ((1, 1), (1, 1))), (ONE, ()), (ONE, None), ("a",),
        (((2, 2),),), (((0, 2),),), (((1, 0),),), (((1, -1),),), (((-1, -1),),), (((4, 6),),), ((1,),), (((1,),),),
        (((1, 1, 1),),), (((True, 1),),), (((1, True),),), (((False, 1),),), (([1, 1],),), ((("1", 1),),),
        (((1, None),),), tuple([ONE] * 41), (tuple([(1, 1)] * 41),),
    )

    def test_values_that_are_no_tables(self):
        for rows in self.BAD:
            for call in (lambda: rank(rows), lambda: inverse(rows), lambda: solved(rows, self.ONE)):
                with self.assertRaises(BadTable, msg=repr(rows)[:80]):
                    call()

    def test_rights_that_do_not_fit(self):
        for rights in ((), ((1, 1), (1, 1)), [(1, 1)], ((2, 2),), ((1, 0),), ((True, 1),), (1,), None, "a", {}):
            with self.assertRaises(BadTable):
                solved((self.ONE,), rights)

    def test_inverse_of_what_is_not_square(self):
        for rows in (table((1, 2)), table((1,), (2,)), table((1, 0, 0), (0, 1, 0))):
            with self.assertRaises(BadTable):
                inverse(rows)


if __name__ == "__main__":
    unittest.main()
