"""Trees: lots of lines that join all nodes without a ring, and what their weights tell."""

from itertools import combinations

from wattkeep.errors import BadInjections
from wattkeep.flows import angle_table, grounded, transfer
from wattkeep.grids import check_grid, first_places, is_bridge, joined, line_ends, line_place, without_lines
from wattkeep.ratios import ONE, ZERO, by, minus, plus, times, total


def has_ring(ends, count):
    """Tell whether lines with these ends, among so many nodes, close a ring."""
    firsts = list(range(count))
    for one, other in ends:
        if firsts[one] == firsts[other]:
            return True
        firsts = joined(firsts, one, other)
    return False


def places_without_ring(grid, count):
    """Return the places of each lot of so many lines that close no ring, in order."""
    ends = line_ends(grid)
    nodes = len(grid[0])
    lots = list(range(len(ends)))
    return [lot for lot in combinations(lots, count) if not has_ring([ends[at] for at in lot], nodes)]


def determinant(table):
    """Return the determinant of a table in which no column needs its rows exchanged."""
    found = ONE
    left = table
    while left:
        pivot = left[0]
        found = times(found, pivot[0])
        factors = [by(row[0], pivot[0]) for row in left[1:]]
        left = [
            [minus(part, times(factor, above)) for part, above in zip(row[1:], pivot[1:])]
            for row, factor in zip(left[1:], factors)
        ]
    return found


def weight_of_trees(grid):
    """Return the sum of the weights of all trees, or of all lots that are a tree of each island.

    It is the determinant of the grounded table (Kirchhoff). That table is positive definite, so that none of its
    pivots is 0.
    """
    return determinant(grounded(grid))


def merged(grid, one, other):
    """Return the grid with one in the place of other, without the lines between them."""
    lines = []
    for name, start, goal, own, limit in grid[1]:
        start = one if start == other else start
        goal = one if goal == other else goal
        if start != goal:
            lines.append((name, start, goal, own, limit))
    return (tuple([node for node in grid[0] if node != other]), tuple(lines), (), ())


def trees(grid):
    """Return the list of all trees of a grid of one island."""
    check_grid(grid)
    if max(first_places(grid)) > 0:
        raise BadInjections("more islands than one")
    names = [line[0] for line in grid[1]]
    return [tuple([names[at] for at in lot]) for lot in places_without_ring(grid, len(grid[0]) - 1)]


def tree_weight(grid):
    """Return the sum of the weights of all trees."""
    check_grid(grid)
    return weight_of_trees(grid)


def part_in_trees(grid, name):
    """Return the weight of the trees with a line by that of all trees."""
    check_grid(grid)
    line_place(grid, name)
    if is_bridge(grid, name):
        return ONE
    without = weight_of_trees(without_lines(grid, (name,)))
    return minus(ONE, by(without, weight_of_trees(grid)))


def reactance_by_trees(grid, one, other):
    """Return what reactance tells: the weight of the trees once two nodes are made one by that of all trees."""
    check_grid(grid)
    transfer(grid, one, other)
    if one == other:
        return ZERO
    return by(weight_of_trees(merged(grid, one, other)), weight_of_trees(grid))


def sum_over_lines(grid):
    """Return the sum over all lines of the reactance between their ends by their own."""
    check_grid(grid)
    table = angle_table(grid)
    parts = []
    for line, (one, other) in zip(grid[1], line_ends(grid)):
        own = plus(table[one][one], table[other][other])
        shared = plus(table[one][other], table[other][one])
        parts.append(by(minus(own, shared), (line[3], 1)))
    return total(parts)
