"""What the tests share: Fractions beside ratios, grids to try, and values that are never right."""

from fractions import Fraction
from math import gcd
from random import Random

TRIANGLE = (("a", "b", "c"), (("x", "a", "b", 1, 9), ("y", "b", "c", 1, 9), ("z", "a", "c", 1, 9)), (), ())
TWINS = (("a", "b"), (("x", "a", "b", 1, 9), ("y", "a", "b", 2, 9), ("z", "b", "a", 3, 9)), (), ())
CHAIN = (("a", "b", "c"), (("x", "a", "b", 2, 9), ("y", "c", "b", 3, 9)), (), ())
SINGLE = (("a",), (), (), ())
# Two islands, one with a ring and a bridge, one with twins, whose nodes take turns; and a node by itself.
MIXED = (
    ("a", "p", "b", "q", "c", "d", "s"),
    (("x", "a", "b", 2, 9), ("v", "q", "p", 4, 9), ("y", "b", "c", 3, 9), ("w", "p", "q", 5, 9),
     ("z", "c", "a", 7, 9), ("u", "d", "c", 1, 9)),
    (), (),
)

ONE = (1, 1)
# Two lines side by side that bear 3 each, a cheap plant at one end and a dear one with the load at the other.
PARALLEL = (
    ("a", "b"), (("x", "a", "b", 1, 3), ("y", "a", "b", 1, 3)), (("p", "a", 9, 1), ("q", "b", 9, 4)), (("n", "b", 5, 50),),
)
# A ring and a bridge.
LOOP = (
    ("a", "b", "c", "d"),
    (("x", "a", "b", 1, 9), ("y", "b", "c", 2, 9), ("z", "a", "c", 1, 6), ("w", "c", "d", 3, 7)),
    (("p", "a", 20, 1), ("q", "c", 20, 9), ("r", "b", 4, 3)), (("n", "c", 6, 99), ("m", "d", 5, 40)),
)
# A ring of which one line is full, so that its prices, rents and pulls are no integers.
RING = (
    ("a", "b", "c"), (("x", "a", "b", 1, 9), ("y", "c", "b", 2, 9), ("z", "a", "c", 1, 2)),
    (("p", "a", 9, 1), ("q", "c", 9, 6)), (("n", "c", 5, 50), ("m", "b", 1, 9), ("o", "c", 0, 3)),
)
# Values that are no ratio from 1 to 9.
NOT_OVER = (
    (1, 2), (0, 1), (-1, 1), (10, 1), (91, 10), (9001, 1000), (999, 1000), (2, 2), (4, 2), (True, 1), (1, True), (3, -1),
    [1, 1], (1, 1, 1), (1,), 1, 2, "1", None, True, (), (1, 0), ((1, 1),), {},
)

# Values of every kind that stand for nothing in the interface.
WRONG = (
    7, 0, -1, "", "?", "zz", True, False, None, [], [1], {}, {"a": 1}, (True,), (None,), ([],), ({},), (7, "a", None),
    ((1, 2), [3], {"a": (None,)}), [("a", [True])], {"b": [(), {}]}, ("zz", [1], {}), (((("a",),),),),
)


def fraction(value):
    """Return a ratio as a Fraction, which must be one."""
    assert isinstance(value, tuple) and len(value) == 2, value
    top, low = value
    assert isinstance(top, int) and isinstance(low, int), value
    assert not isinstance(top, bool) and not isinstance(low, bool), value
    assert low > 0 and gcd(top, low) == 1, value
    return Fraction(top, low)


def fractions(values):
    assert isinstance(values, tuple), values
    return [fraction(value) for value in values]


def ratio(value, low=1):
    value = Fraction(value, low)
    return (value.numerator, value.denominator)


def ratios(*values):
    return tuple(ratio(value) for value in values)


def written(value):
    """Return a Fraction as an integer or top/low."""
    return str(value.numerator) if value.denominator == 1 else f"{value.numerator}/{value.denominator}"


def some_ratio(random, most=9, low=4):
    return ratio(random.randint(-most, most), random.randint(1, low))


def rank_of(rows):
    """Return the rank of rows of Fractions, which may be void."""
    left, count = [list(row) for row in rows], 0
    for col in range(len(left[0]) if left else 0):
        pivot = next((row for row in left if row[col]), None)
        if pivot is not None:
            count += 1
            left = [[part - other * row[col] / pivot[col] for part, other in zip(row, pivot)] for row in left if row is not pivot]
    return count


def islands_of(grid):
    """Return the islands by searching from each node, another way than the program's."""
    found = []
    for node in grid[0]:
        if not any(node in island for island in found):
            near = {node}
            for _ in grid[0]:
                for line in grid[1]:
                    if line[1] in near or line[2] in near:
                        near |= {line[1], line[2]}
            found.append(tuple(known for known in grid[0] if known in near))
    return tuple(found)


def lacking(grid, names):
    return (grid[0], tuple(line for line in grid[1] if line[0] not in names), grid[2], grid[3])


def some_grid(random, nodes=None, lines=None):
    """Return a grid without plants and loads."""
    count = nodes or random.randint(1, 8)
    names = tuple("n" + str(at) for at in range(count))
    many = 0 if count == 1 else random.randint(0, 14) if lines is None else lines
    found = []
    for at in range(many):
        one, other = random.sample(names, 2)
        found.append(("l" + str(at), one, other, random.randint(1, 9), random.randint(0, 30)))
    return (names, tuple(found), (), ())


def some_full_grid(random):
    """Return a grid with plants and loads, about as often with a plan that sheds nothing as without one."""
    nodes, lines, _, _ = some_grid(random)
    plants = tuple(
        ("p" + str(at), random.choice(nodes), random.randint(0, 30), random.randint(0, 9))
        for at in range(random.randint(0, 8))
    )
    loads = tuple(
        ("d" + str(at), random.choice(nodes), random.randint(0, 9), random.randint(0, 99))
        for at in range(random.randint(0, 5))
    )
    return (nodes, lines, plants, loads)


def some_joined_grid(random, most=6):
    """Return a grid of one island with rings, plants and loads, whose lines are about as often full as not."""
    names = tuple("n" + str(at) for at in range(random.randint(2, most)))
    ends = [(names[at], random.choice(names[:at])) for at in range(1, len(names))]
    ends += [tuple(random.sample(names, 2)) for _ in range(random.randint(1, 4))]
    lines = tuple(
        ("l" + str(at), *pair, random.randint(1, 9), random.randint(2, 15)) for at, pair in enumerate(ends)
    )
    plants = tuple(
        ("p" + str(at), random.choice(names), random.randint(0, 30), random.randint(0, 9))
        for at in range(random.randint(1, 4))
    )
    loads = tuple(
        ("d" + str(at), random.choice(names), random.randint(0, 15), random.randint(0, 99))
        for at in range(random.randint(1, 4))
    )
    return (names, lines, plants, loads)


def some_injections(random, grid):
    found = {node: Fraction(random.randint(-9, 9), random.randint(1, 4)) for node in grid[0]}
    for island in islands_of(grid):
        found[island[-1]] -= sum(found[node] for node in island)
    return tuple(ratio(found[node]) for node in grid[0])


def some_grids(seed, count):
    random = Random(seed)
    return [TRIANGLE, TWINS, CHAIN, SINGLE, MIXED] + [some_grid(random) for _ in range(count)]


def balances(grid, inject, flows):
    """Tell whether the lines take out at each node what is injected."""
    left = dict(zip(grid[0], fractions(inject)))
    for line, flow in zip(grid[1], fractions(flows)):
        left[line[1]] -= flow
        left[line[2]] += flow
    return len(flows) == len(grid[1]) and not any(left.values())


def have_angles(grid, flows):
    """Tell whether there are angles of which the flows are: so it is if they sum to 0 around each ring."""
    angles = {}
    for island in islands_of(grid):
        angles[island[0]] = Fraction(0)
        for _ in island:
            for line, flow in zip(grid[1], fractions(flows)):
                if line[1] in angles and line[2] not in angles:
                    angles[line[2]] = angles[line[1]] - flow * line[3]
                if line[2] in angles and line[1] not in angles:
                    angles[line[1]] = angles[line[2]] + flow * line[3]
    return all(
        angles[line[1]] - angles[line[2]] == flow * line[3] for line, flow in zip(grid[1], fractions(flows))
    )
