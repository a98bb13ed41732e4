"""Linear systems over ratios: the rank, a solution or a proof that there is none, the inverse."""

from math import gcd

from wattkeep.errors import BadTable
from wattkeep.ratios import ZERO, are_ratios, ratio, slim, unit, whole

MOST = 40


def is_table(value):
    """Tell whether a value is a table."""
    if not isinstance(value, tuple) or not 1 <= len(value) <= MOST:
        return False
    if not isinstance(value[0], tuple) or not 1 <= len(value[0]) <= MOST:
        return False
    return all([are_ratios(row, len(value[0])) for row in value])


def check_table(rows):
    """Raise BadTable for a value that is no table."""
    if not is_table(rows):
        raise BadTable("no table")


def cleared(row, pivot, col):
    """Return a row, times a number that is not 0, less the multiple of the pivot's that leaves 0 in a column."""
    if row[col] == 0:
        return row
    shared = gcd(row[col], pivot[col])
    up, down = pivot[col] // shared, row[col] // shared
    # Whole numbers without a shared divisor stay short, and no ratio has to be brought to lowest terms.
    return slim([up * part - down * other for part, other in zip(row, pivot)])


def eliminated(rows, width):
    """Eliminate the first columns of rows of whole numbers.

    Returns (done, left, columns): done has a row for each column of columns, in which the other columns of
    columns are 0; in the rows of left all the first columns are 0.
    """
    done, left, columns = [], list(rows), []
    for col in range(width):
        at = 0
        while at < len(left) and left[at][col] == 0:
            at += 1
        if at < len(left):
            pivot = left[at]
            others = left[:at] + left[at + 1:]
            left = [cleared(row, pivot, col) for row in others]
            done = [cleared(row, pivot, col) for row in done] + [pivot]
            columns.append(col)
    return done, left, columns


def beside_units(rows):
    """Return the rows in whole numbers, each with its row of the unit table behind it.

    Whatever sum of rows an elimination forms, the columns behind tell which one it is.
    """
    return [whole(list(row) + unit(len(rows), at))[1] for at, row in enumerate(rows)]


def rank(rows):
    """Return the rank of a table."""
    check_table(rows)
    columns = eliminated([whole(row)[1] for row in rows], len(rows[0]))[2]
    return len(columns)


def worked(rows, rights, width):
    """Eliminate the columns of rows that have so many, each with its right side and its unit row behind it."""
    return eliminated(beside_units([[*row, right] for row, right in zip(rows, rights)]), width)


def refuted(left, width):
    """Return a sum of the rows that is 0 in each column and not on the right, None if there is none."""
    for row in left:
        if row[width] != 0:
            return tuple([(part, 1) for part in row[width + 1:]])
    return None


def solved(rows, rights):
    """Return ("one", x), ("many", x), or ("none", y) with a sum of the rows that shows it."""
    check_table(rows)
    if not are_ratios(rights, len(rows)):
        raise BadTable("right sides that do not fit the rows")
    width = len(rows[0])
    done, left, columns = worked(rows, rights, width)
    against = refuted(left, width)
    if against is not None:
        return ("none", against)
    found = [ZERO] * width
    for row, col in zip(done, columns):
        found[col] = ratio(row[width], row[col])
    return ("one" if len(columns) == width else "many", tuple(found))


def inverted(rows):
    """Return the inverse of a square table that is known to be one, None if there is none."""
    width = len(rows)
    done, _, columns = eliminated(beside_units(rows), width)
    if len(columns) < width:
        return None
    return tuple([tuple([ratio(part, row[col]) for part in row[width:]]) for row, col in zip(done, columns)])


def inverse(rows):
    """Return the inverse of a table with as many rows as columns, None if there is none."""
    check_table(rows)
    if len(rows) != len(rows[0]):
        raise BadTable("as many rows as columns are needed")
    return inverted(rows)
