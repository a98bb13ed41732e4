"""Lots: what is told of many grids, and which of them comes first with the least."""

from itertools import combinations

from wattkeep.plans import plan_cost, plan_loss
from wattkeep.ratios import is_above


def lots_of_lines(grid, most):
    """Return the lots of at most so many names of lines: none first, then one, then two, in the grid's order."""
    names = [line[0] for line in grid[1]]
    lots = []
    for count in range(most + 1):
        lots = lots + list(combinations(names, count))
    return lots


def are_told(shows, grids, tolds):
    """Tell whether a value is a tuple of what may be told of each grid, as a function of these two shows."""
    if not isinstance(tolds, tuple) or len(tolds) != len(grids):
        return False
    return all([shows(grid, told) for grid, told in zip(grids, tolds)])


def told_costs(grids, tolds):
    """Return what each plan costs that cheapest told, None where it told that there is none."""
    return [plan_cost(grid, told[1]) if told[0] == "plan" else None for grid, told in zip(grids, tolds)]


def told_losses(grids, tolds):
    """Return what each plan loses that least_shed told."""
    return [plan_loss(grid, told[0]) for grid, told in zip(grids, tolds)]


def least_place(values):
    """Return the place of the first of the least ratios, None if all values are None."""
    place = None
    for at, value in enumerate(values):
        if value is not None and (place is None or is_above(values[place], value)):
            place = at
    return place
