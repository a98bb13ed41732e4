"""Ready for any one fall: plans that are safe behind the fall of any line that is no bridge."""

from wattkeep.falls import NO_FALLS, check_over
from wattkeep.grids import check_grid, is_bridge
from wattkeep.papers import is_best
from wattkeep.planning import cheapest_losing, least_loss, nets_of
from wattkeep.plans import amounts_of, check_plan, is_safe_behind, plan_cost, plan_loss
from wattkeep.ratios import minus


def all_falls(grid, over):
    """Return the falls of all lines that are no bridges."""
    return (tuple([line[0] for line in grid[1] if not is_bridge(grid, line[0])]), over)


def is_ready(grid, plan, over):
    """Tell whether a plan is safe behind the fall of any line that is no bridge."""
    check_grid(grid)
    check_plan(grid, plan)
    check_over(over)
    return is_safe_behind(grid, plan, all_falls(grid, over))


def ready_plan(grid, over):
    """Return (plan, papers, rate, least) with a ready plan that loses the least and costs the least of those."""
    check_grid(grid)
    check_over(over)
    nets = nets_of(grid, all_falls(grid, over))
    least = least_loss(grid, nets, amounts_of(grid[2]))
    return cheapest_losing(grid, nets, plan_loss(grid, least[0])) + (least,)


def shows_ready_plan(grid, over, value):
    """Tell whether a value is what ready_plan may tell."""
    check_grid(grid)
    check_over(over)
    return is_best(grid, all_falls(grid, over), value)


def price_of_ready(grid, over):
    """Return (worth, cost): what a ready plan loses more than need be, and what it costs more than it would then."""
    check_grid(grid)
    check_over(over)
    plan = ready_plan(grid, over)[0]
    loss = plan_loss(grid, plan)
    nets = nets_of(grid, NO_FALLS)
    free = least_loss(grid, nets, amounts_of(grid[2]))[0]
    cheap = cheapest_losing(grid, nets, loss)[0]
    return (minus(loss, plan_loss(grid, free)), minus(plan_cost(grid, plan), plan_cost(grid, cheap)))
