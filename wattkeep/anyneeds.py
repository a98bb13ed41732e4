"""Needs that nobody knows: what is sure, and what must be lost at worst, if loads may need less than they need."""

from wattkeep.dispatch import cheapest, shows_cheapest
from wattkeep.errors import BadHours
from wattkeep.grids import check_grid
from wattkeep.lots import are_told, least_place, told_losses
from wattkeep.ratios import is_between, is_integer, is_ratio, negative
from wattkeep.shedding import least_shed, shows_least_shed

MOST_UNKNOWN = 5


def check_lows(grid, lows):
    """Raise BadHours unless a value is lows of a grid."""
    if not isinstance(lows, tuple) or len(lows) != len(grid[3]):
        raise BadHours("no low for each load")
    if not all([is_between(low, 0, load[2]) for low, load in zip(lows, grid[3])]):
        raise BadHours("a low beyond its bounds")
    if len([low for low, load in zip(lows, grid[3]) if low < load[2]]) > MOST_UNKNOWN:
        raise BadHours("more than five loads whose needs nobody knows")


def all_corners(grid, lows):
    """Return the tuples of the low or the need of each load, unlike and in order."""
    corners = [()]
    for low, load in zip(lows, grid[3]):
        ends = (low,) if low == load[2] else (low, load[2])
        corners = [corner + (need,) for corner in corners for need in ends]
    return corners


def grid_needing(grid, needs):
    """Return the grid in which the loads need so much."""
    loads = [load[:2] + (need, load[3]) for load, need in zip(grid[3], needs)]
    return (grid[0], grid[1], grid[2], tuple(loads))


def grids_at(grid, corners):
    """Return the grid of each corner."""
    return [grid_needing(grid, corner) for corner in corners]


def all_have_plans(tolds):
    """Tell whether cheapest told a plan each time."""
    return all([told[0] == "plan" for told in tolds])


def most_lost(grids, corners, tolds):
    """Return (worth, needs): the most that is lost at a corner, and the first corner at which it is."""
    losses = told_losses(grids, tolds)
    place = least_place([negative(loss) for loss in losses])
    return (losses[place], corners[place])


def surely(grid, lows):
    """Return (whether a plan sheds nothing and holds for all needs, what cheapest tells at each corner)."""
    check_grid(grid)
    check_lows(grid, lows)
    tolds = tuple([cheapest(known) for known in grids_at(grid, all_corners(grid, lows))])
    return (all_have_plans(tolds), tolds)


def shows_surely(grid, lows, value):
    """Tell whether a value is what surely may tell."""
    check_grid(grid)
    check_lows(grid, lows)
    if not isinstance(value, tuple) or len(value) != 2 or not isinstance(value[0], bool):
        return False
    if not are_told(shows_cheapest, grids_at(grid, all_corners(grid, lows)), value[1]):
        return False
    return value[0] == all_have_plans(value[1])


def worst(grid, lows):
    """Return (worth, needs, tolds): the most that must be lost, at which corner, and what least_shed tells at each."""
    check_grid(grid)
    check_lows(grid, lows)
    corners = all_corners(grid, lows)
    grids = grids_at(grid, corners)
    tolds = tuple([least_shed(known) for known in grids])
    return most_lost(grids, corners, tolds) + (tolds,)


def shows_worst(grid, lows, value):
    """Tell whether a value is what worst may tell."""
    check_grid(grid)
    check_lows(grid, lows)
    if not isinstance(value, tuple) or len(value) != 3:
        return False
    worth, needs, tolds = value
    corners = all_corners(grid, lows)
    grids = grids_at(grid, corners)
    if not are_told(shows_least_shed, grids, tolds) or (worth, needs) != most_lost(grids, corners, tolds):
        return False
    # True equals 1, but is no integer.
    return is_ratio(worth) and all([is_integer(need) for need in needs])
