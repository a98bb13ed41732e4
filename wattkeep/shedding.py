"""Shedding: the plan that loses the least, and the cheapest one of those that lose no more."""

from wattkeep.falls import NO_FALLS
from wattkeep.grids import check_grid
from wattkeep.papers import is_best, is_least, with_row
from wattkeep.planning import cheapest_losing, least_loss, nets_of
from wattkeep.plans import amounts_of, check_plan, plan_loss


def lost(grid, plan):
    """Return what a plan loses: worth times shed."""
    check_grid(grid)
    check_plan(grid, plan)
    return plan_loss(grid, plan)


def least_shed(grid):
    """Return (plan, paper) with a plan that holds and loses the least."""
    check_grid(grid)
    plan, papers = least_loss(grid, nets_of(grid, NO_FALLS), amounts_of(grid[2]))
    return (plan, papers[0])


def shows_least_shed(grid, value):
    """Tell whether a value is what least_shed may tell."""
    check_grid(grid)
    return is_least(grid, NO_FALLS, amounts_of(grid[2]), with_row(value))


def best_plan(grid):
    """Return (plan, paper, rate, least) with a plan that holds, loses the least and costs the least of those."""
    check_grid(grid)
    least = least_shed(grid)
    plan, papers, rate = cheapest_losing(grid, nets_of(grid, NO_FALLS), plan_loss(grid, least[0]))
    return (plan, papers[0], rate, least)


def shows_best_plan(grid, value):
    """Tell whether a value is what best_plan may tell."""
    check_grid(grid)
    if not isinstance(value, tuple) or len(value) != 4:
        return False
    plan, paper, rate, least = value
    return is_best(grid, NO_FALLS, (plan, (paper,), rate, with_row(least)))
