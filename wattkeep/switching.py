"""Switching: lines without which the cheapest plan costs less."""

from wattkeep.dispatch import cheapest, shows_cheapest
from wattkeep.errors import BadNumber
from wattkeep.grids import check_grid, without_lines
from wattkeep.lots import are_told, least_place, lots_of_lines, told_costs
from wattkeep.ratios import is_above, is_between

MOST_OFF = 2


def check_most(most):
    """Raise BadNumber unless a value is 0, 1 or 2."""
    if not is_between(most, 0, MOST_OFF):
        raise BadNumber("not 0, 1 or 2")


def first_off(grids, lots, tolds):
    """Return the first lot without which the cheapest plan costs the least, None if no lot has a plan."""
    place = least_place(told_costs(grids, tolds))
    return None if place is None else lots[place]


def best_off(grid, most):
    """Return (names, tolds): the lines to do without, and what cheapest tells without each lot of lines."""
    check_grid(grid)
    check_most(most)
    lots = lots_of_lines(grid, most)
    grids = [without_lines(grid, lot) for lot in lots]
    tolds = tuple([cheapest(left) for left in grids])
    return (first_off(grids, lots, tolds), tolds)


def shows_best_off(grid, most, value):
    """Tell whether a value is what best_off may tell."""
    check_grid(grid)
    check_most(most)
    if not isinstance(value, tuple) or len(value) != 2:
        return False
    lots = lots_of_lines(grid, most)
    grids = [without_lines(grid, lot) for lot in lots]
    return are_told(shows_cheapest, grids, value[1]) and value[0] == first_off(grids, lots, value[1])


def hurtful(grid):
    """Return (name, cost, cost without it) of each line without which the cheapest plan costs less."""
    check_grid(grid)
    lots = lots_of_lines(grid, 1)
    grids = [without_lines(grid, lot) for lot in lots]
    costs = told_costs(grids, [cheapest(left) for left in grids])
    # The first lot is that of no line.
    own = costs[0]
    if own is None:
        return ()
    found = []
    for lot, cost in zip(lots, costs):
        if cost is not None and is_above(own, cost):
            found.append((lot[0], own, cost))
    return tuple(found)
