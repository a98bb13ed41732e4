"""Plans: what the plants make and the loads shed, and the cheapest plan with the paper that shows it."""

from wattkeep.falls import NO_FALLS
from wattkeep.grids import check_grid
from wattkeep.papers import is_cheapest, with_row
from wattkeep.planning import cheapest_plan
from wattkeep.plans import check_plan, is_plan_of, plan_cost, plan_flows, plan_holds


def is_plan(grid, value):
    """Tell whether a value is a plan of a grid."""
    check_grid(grid)
    return is_plan_of(grid, value)


def flows_of(grid, plan):
    """Return the flows of a plan."""
    check_grid(grid)
    check_plan(grid, plan)
    return plan_flows(grid, plan)


def cost_of(grid, plan):
    """Return what a plan costs: made times price."""
    check_grid(grid)
    check_plan(grid, plan)
    return plan_cost(grid, plan)


def holds(grid, plan):
    """Tell whether no line's flow is beyond its limit, either way."""
    check_grid(grid)
    check_plan(grid, plan)
    return plan_holds(grid, plan)


def cheapest(grid):
    """Return ("plan", plan, paper) with a cheapest plan, or ("none", paper) if no plan sheds nothing and holds."""
    check_grid(grid)
    told = cheapest_plan(grid, NO_FALLS)
    # Where nothing falls the row of papers has just one.
    return told[:-1] + told[-1]


def shows_cheapest(grid, value):
    """Tell whether a value is what cheapest may tell."""
    check_grid(grid)
    return is_cheapest(grid, NO_FALLS, with_row(value))
