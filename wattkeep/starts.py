"""Starts: which plants to have on, when each that is on costs something for that alone."""

from wattkeep.dispatch import cheapest, shows_cheapest
from wattkeep.errors import BadStarts
from wattkeep.grids import check_grid
from wattkeep.lots import are_told, least_place, told_costs
from wattkeep.ratios import is_between, plus

MOST_PLANTS = 4
MOST_START = 9999


def check_starts(grid, starts):
    """Raise BadStarts unless a value is starts of a grid."""
    if not isinstance(starts, tuple) or len(starts) != len(grid[2]) or len(starts) > MOST_PLANTS:
        raise BadStarts("no start for each of at most four plants")
    if not all([is_between(start, 0, MOST_START) for start in starts]):
        raise BadStarts("a start beyond its bounds")


def all_lots(count):
    """Return all tuples of so many truths, in order."""
    lots = [()]
    for _ in range(count):
        lots = [lot + (is_on,) for lot in lots for is_on in (False, True)]
    return lots


def grid_on(grid, lot):
    """Return the grid in which the plants that are off can make nothing."""
    plants = [plant if is_on else plant[:2] + (0, plant[3]) for plant, is_on in zip(grid[2], lot)]
    return (grid[0], grid[1], tuple(plants), grid[3])


def first_lot(grids, lots, starts, tolds):
    """Return the first lot of least cost, starts included, None if no lot has a plan."""
    values = []
    for lot, cost in zip(lots, told_costs(grids, tolds)):
        begun = sum([start for start, is_on in zip(starts, lot) if is_on])
        values.append(None if cost is None else plus(cost, (begun, 1)))
    place = least_place(values)
    return None if place is None else lots[place]


def cheapest_on(grid, starts):
    """Return (lot, tolds): the plants to have on, and what cheapest tells for each lot of plants."""
    check_grid(grid)
    check_starts(grid, starts)
    lots = all_lots(len(grid[2]))
    grids = [grid_on(grid, lot) for lot in lots]
    tolds = tuple([cheapest(known) for known in grids])
    return (first_lot(grids, lots, starts, tolds), tolds)


def shows_cheapest_on(grid, starts, value):
    """Tell whether a value is what cheapest_on may tell."""
    check_grid(grid)
    check_starts(grid, starts)
    if not isinstance(value, tuple) or len(value) != 2:
        return False
    found, tolds = value
    lots = all_lots(len(grid[2]))
    grids = [grid_on(grid, lot) for lot in lots]
    if not are_told(shows_cheapest, grids, tolds) or found != first_lot(grids, lots, starts, tolds):
        return False
    # 1 and 0 equal truths, but are none.
    return found is None or all([isinstance(part, bool) for part in found])
