"""Linear programs: a point of least costs, or a proof that there is none or that the costs have no end."""

from math import gcd

from wattkeep.errors import BadProgram
from wattkeep.ratios import ONE, ZERO, are_ratios, dot, is_above, negative, ratio, slim, whole

MOST = 80
HELPER = -1


def is_program(value):
    """Tell whether a value is a program."""
    if not isinstance(value, tuple) or len(value) != 3:
        return False
    costs, rows, rights = value
    if not isinstance(costs, tuple) or not isinstance(rows, tuple):
        return False
    if not 1 <= len(costs) <= MOST or len(rows) > MOST:
        return False
    if not are_ratios(costs, len(costs)) or not are_ratios(rights, len(rows)):
        return False
    return all([are_ratios(row, len(costs)) for row in rows])


def check_program(program):
    """Raise BadProgram for a value that is no program."""
    if not is_program(program):
        raise BadProgram("no program")


def equation(row, right):
    """Return what a row has left up to its right side, as an equation."""
    low, parts = whole([right, *row])
    return slim([low, *parts])


def turned(pivot, place):
    """Return an equation, solved for its own variable, solved for the one at a place instead."""
    signed = pivot if pivot[place] > 0 else [-part for part in pivot]
    return [signed[place]] + signed[1:place] + [signed[0]] + signed[place + 1:]


def replaced(row, pivot, place):
    """Return an equation with what the pivot equation tells of the variable at a place put into it."""
    if row[place] == 0:
        return row
    shared = gcd(row[place], pivot[place])
    if pivot[place] < 0:
        shared = -shared
    up, down = pivot[place] // shared, row[place] // shared
    found = [up * part - down * other for part, other in zip(row, pivot)]
    found[0] = up * row[0]
    found[place] = -down * pivot[0]
    return slim(found)


class Search:
    """The simplex method over whole numbers.

    The variables are those of the program, from 0 on, then what each row has left up to its right side. Those of
    free stand at 0. Each of held is told by an equation, a row (own, right, *parts): own times it is right less
    the sum of parts times the free ones; own is above 0. Each goal is such an equation, too.
    """

    def __init__(self, costs, rows, rights):
        width = len(costs)
        low, parts = whole(costs)
        self.width = width
        self.free = list(range(width))
        self.held = [width + at for at in range(len(rows))]
        self.rows = [equation(row, right) for row, right in zip(rows, rights)]
        self.goals = [[low, 0] + [-part for part in parts]]

    def exchange(self, at, col):
        """Let the held variable at a place be free, and the free one at a column be held."""
        pivot = self.rows[at]
        place = col + 2
        rows = [replaced(row, pivot, place) for row in self.rows]
        rows[at] = turned(pivot, place)
        self.rows = rows
        self.goals = [replaced(goal, pivot, place) for goal in self.goals]
        self.held[at], self.free[col] = self.free[col], self.held[at]

    def entering(self):
        """Return the column of the free variable that lowers the last goal most when it rises, None if none does."""
        parts = self.goals[-1][2:]
        steepest = max(parts, default=0)
        if steepest <= 0:
            return None
        return parts.index(steepest)

    def leaving(self, col):
        """Return the place of the held variable that comes down to 0 first, None if none comes down."""
        place = col + 2
        spots = {variable: at + 2 for at, variable in enumerate(self.free)}
        first = None
        for at, row in enumerate(self.rows):
            if row[place] > 0 and (first is None or self.is_sooner(at, first, place, spots)):
                first = at
        return first

    def is_sooner(self, at, known, place, spots):
        """Tell whether the variable held at a place comes down to 0 ahead of a known one.

        Rows that are met at once could lead the search back to where it was. So each right side is thought of as
        raised, by an amount far smaller than the one for the row ahead of it: then no two rows are met at once,
        each step gains something, and the search ends. What stands with the rows' own variables tells how far a
        right side is raised.
        """
        one, other = self.rows[at], self.rows[known]
        gap = one[1] * other[place] - other[1] * one[place]
        variable = self.width
        while gap == 0:
            gap = self.raised(at, variable, spots) * other[place] - self.raised(known, variable, spots) * one[place]
            variable += 1
        return gap < 0

    def raised(self, at, variable, spots):
        """Return how far an equation's right side is raised with that of the row whose variable is told."""
        if variable in spots:
            return self.rows[at][spots[variable]]
        return self.rows[at][0] if variable == self.held[at] else 0

    def sink(self):
        """Lower the last goal as far as it goes; return the column along which it has no end, None if it has one."""
        while True:
            col = self.entering()
            if col is None:
                return None
            at = self.leaving(col)
            if at is None:
                return col
            self.exchange(at, col)

    def lowest_row(self):
        """Return the place of the held variable that stands lowest, None if none stands below 0.

        Of more the last one, whose right side is raised least.
        """
        lowest = None
        for at, row in enumerate(self.rows):
            if row[1] < 0 and (lowest is None or row[1] * self.rows[lowest][0] <= self.rows[lowest][1] * row[0]):
                lowest = at
        return lowest

    def reach_point(self):
        """Bring all held variables to 0 or above; return None, or the paper that shows that it cannot be done.

        A helper that each row has to spare makes a point of any place, so that the search lowers the helper.
        """
        worst = self.lowest_row()
        if worst is None:
            return None
        self.free.append(HELPER)
        self.rows = [[*row, -row[0]] for row in self.rows]
        self.goals = [[*goal, 0] for goal in self.goals]
        self.goals.append([1, 0] + [0] * (len(self.free) - 1) + [-1])
        self.exchange(worst, len(self.free) - 1)
        self.sink()
        helped = self.goals.pop()
        if helped[1] > 0:
            return self.paper(helped)
        # Held variables stand above 0 by what the right sides are raised, so that the helper, at 0, is a free one.
        place = self.free.index(HELPER)
        self.free = [variable for variable in self.free if variable != HELPER]
        self.rows = [row[:place + 2] + row[place + 3:] for row in self.rows]
        self.goals = [goal[:place + 2] + goal[place + 3:] for goal in self.goals]
        return None

    def paper(self, goal):
        """Return for each row what a goal rises by what the row has left."""
        found = [ZERO] * len(self.rows)
        for variable, part in zip(self.free, goal[2:]):
            if variable >= self.width:
                found[variable - self.width] = ratio(-part, goal[0])
        return tuple(found)

    def point(self):
        """Return where the program's variables stand."""
        found = [ZERO] * self.width
        for variable, row in zip(self.held, self.rows):
            if variable < self.width:
                found[variable] = ratio(row[1], row[0])
        return tuple(found)

    def way(self, col):
        """Return how the program's variables move when the free one at a column rises."""
        found = [ZERO] * self.width
        if self.free[col] < self.width:
            found[self.free[col]] = ONE
        for variable, row in zip(self.held, self.rows):
            if variable < self.width:
                found[variable] = ratio(-row[col + 2], row[0])
        return tuple(found)


def best_of(costs, rows, rights):
    """Return what best tells of a program of any lengths that is known to be one."""
    search = Search(costs, rows, rights)
    paper = search.reach_point()
    if paper is not None:
        return ("none", paper)
    col = search.sink()
    if col is not None:
        return ("endless", search.point(), search.way(col))
    return ("best", search.point(), search.paper(search.goals[0]))


def best(program):
    """Return ("best", point, paper), ("none", paper) or ("endless", point, way)."""
    check_program(program)
    return best_of(program[0], program[1], program[2])


def are_from_zero(value, count):
    """Tell whether a value is a tuple of so many ratios from 0 on."""
    return are_ratios(value, count) and all([part[0] >= 0 for part in value])


def summed(rows, paper, width):
    """Return the rows times the paper, in each column."""
    return [dot([row[col] for row in rows], paper) for col in range(width)]


def is_point(program, value):
    """Tell whether a value is a point of a program."""
    costs, rows, rights = program
    if not are_from_zero(value, len(costs)):
        return False
    return not any([is_above(dot(row, value), right) for row, right in zip(rows, rights)])


def shows_least(program, point, paper):
    """Tell whether a point is one of least costs, as the paper shows."""
    costs, rows, rights = program
    if not is_point(program, point) or not are_from_zero(paper, len(rows)):
        return False
    # The sums in the columns must not be below the negative costs.
    sums = summed(rows, paper, len(costs))
    if any([is_above(negative(cost), part) for cost, part in zip(costs, sums)]):
        return False
    return dot(costs, point) == negative(dot(rights, paper))


def shows_none(program, paper):
    """Tell whether the paper shows that a program has no point."""
    costs, rows, rights = program
    if not are_from_zero(paper, len(rows)):
        return False
    return all([part[0] >= 0 for part in summed(rows, paper, len(costs))]) and dot(rights, paper)[0] < 0


def shows_endless(program, point, way):
    """Tell whether the costs fall without end from a point along a way."""
    costs, rows, _ = program
    if not is_point(program, point) or not are_from_zero(way, len(costs)):
        return False
    return all([dot(row, way)[0] <= 0 for row in rows]) and dot(costs, way)[0] < 0


def is_told(program, value):
    """Tell whether a value is what best may tell of a program of any lengths that is known to be one."""
    if not isinstance(value, tuple) or not 2 <= len(value) <= 3:
        return False
    if len(value) == 2:
        return value[0] == "none" and shows_none(program, value[1])
    if value[0] == "best":
        return shows_least(program, value[1], value[2])
    return value[0] == "endless" and shows_endless(program, value[1], value[2])


def shows_best(program, value):
    """Tell whether a value is what best may tell."""
    check_program(program)
    return is_told(program, value)
