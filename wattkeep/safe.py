"""Safe behind a fall: plans that hold behind the fall of any one of some lines, and plans that are mended behind it."""

from wattkeep.errors import BadNumber
from wattkeep.falls import NO_FALLS, check_each_fall, check_over
from wattkeep.grids import MOST_AMOUNT, check_grid, line_place, without_lines
from wattkeep.papers import is_cheapest, is_least, with_row
from wattkeep.planning import cheapest_plan, least_loss, nets_of
from wattkeep.plans import check_plan, is_safe_behind, plan_loss
from wattkeep.ratios import is_above, is_between, plus


def check_reach(grid, reach):
    """Raise BadNumber unless a value is a tuple of an integer from 0 to 999 for each plant."""
    if not isinstance(reach, tuple) or len(reach) != len(grid[2]):
        raise BadNumber("no reach for each plant")
    if not all([is_between(amount, 0, MOST_AMOUNT) for amount in reach]):
        raise BadNumber("a reach beyond its bounds")


def mosts_in_reach(grid, plan, reach):
    """Return what each plant makes at most: its most, and what it made and its reach."""
    found = []
    for plant, made, amount in zip(grid[2], plan[0], reach):
        most = (plant[2], 1)
        near = plus(made, (amount, 1))
        found.append(most if is_above(near, most) else near)
    return found


def mended_plan(grid, plan, name, reach):
    """Return what mended tells for arguments that are as they must be."""
    left = without_lines(grid, (name,))
    later, papers = least_loss(left, nets_of(left, NO_FALLS), mosts_in_reach(grid, plan, reach))
    return (later, papers[0])


def is_safe(grid, plan, names, over):
    """Tell whether a plan holds, and behind the fall of any one of these lines no flow is beyond over times a limit."""
    check_grid(grid)
    check_plan(grid, plan)
    check_each_fall(grid, names)
    check_over(over)
    return is_safe_behind(grid, plan, (names, over))


def safe_plan(grid, names, over):
    """Return ("plan", plan, papers) with a cheapest safe plan, or ("none", papers) if no safe plan sheds nothing."""
    check_grid(grid)
    check_each_fall(grid, names)
    check_over(over)
    return cheapest_plan(grid, (names, over))


def shows_safe_plan(grid, names, over, value):
    """Tell whether a value is what safe_plan may tell."""
    check_grid(grid)
    check_each_fall(grid, names)
    check_over(over)
    return is_cheapest(grid, (names, over), value)


def mended(grid, plan, name, reach):
    """Return (later, paper) with a plan behind the fall of a line that loses the least with the plants in reach."""
    check_grid(grid)
    check_plan(grid, plan)
    line_place(grid, name)
    check_reach(grid, reach)
    return mended_plan(grid, plan, name, reach)


def shows_mended(grid, plan, name, reach, value):
    """Tell whether a value is what mended may tell."""
    check_grid(grid)
    check_plan(grid, plan)
    line_place(grid, name)
    check_reach(grid, reach)
    mosts = mosts_in_reach(grid, plan, reach)
    return is_least(without_lines(grid, (name,)), NO_FALLS, mosts, with_row(value))


def behind_each(grid, plan, reach):
    """Return for each line what is lost behind its fall once the plan is mended."""
    check_grid(grid)
    check_plan(grid, plan)
    check_reach(grid, reach)
    return tuple([plan_loss(grid, mended_plan(grid, plan, line[0], reach)[0]) for line in grid[1]])
