"""Plans of a grid that is known to be one: their injections and flows, and whether the lines can bear them."""

from wattkeep.errors import BadPlan
from wattkeep.falls import cases_of
from wattkeep.flows import are_injections, line_flows
from wattkeep.ratios import ONE, ZERO, are_ratios, dot, is_above, minus, plus, size, times


def spots_of(grid, users):
    """Return for each plant, load or store the place of its node."""
    return [grid[0].index(user[1]) for user in users]


def stands_within(parts, users):
    """Tell whether each part is from 0 to the amount of its plant or load."""
    return all([0 <= part[0] <= part[1] * user[2] for part, user in zip(parts, users)])


def injections_of(grid, plan):
    """Return, for each node, what is made less what is needed and not shed."""
    inject = [ZERO] * len(grid[0])
    for at, part in zip(spots_of(grid, grid[2]), plan[0]):
        inject[at] = plus(inject[at], part)
    for at, load, part in zip(spots_of(grid, grid[3]), grid[3], plan[1]):
        inject[at] = plus(inject[at], minus(part, (load[2], 1)))
    return tuple(inject)


def is_plan_of(grid, value):
    """Tell whether a value is a plan of a grid."""
    if not isinstance(value, tuple) or len(value) != 2:
        return False
    made, shed = value
    if not are_ratios(made, len(grid[2])) or not are_ratios(shed, len(grid[3])):
        return False
    if not stands_within(made, grid[2]) or not stands_within(shed, grid[3]):
        return False
    return are_injections(grid, injections_of(grid, value))


def check_plan(grid, plan):
    """Raise BadPlan for a value that is no plan of a grid."""
    if not is_plan_of(grid, plan):
        raise BadPlan("no plan")


def plan_flows(grid, plan):
    """Return the flows of a plan."""
    return line_flows(grid, injections_of(grid, plan))


def limits_in(case):
    """Return what each line that is left may bear."""
    left, over = case
    return [times(over, (line[4], 1)) for line in left[1]]


def are_within(flows, limits):
    """Tell whether no flow is beyond its limit, either way."""
    return not any([is_above(size(flow), limit) for flow, limit in zip(flows, limits)])


def is_safe_behind(grid, plan, falls):
    """Tell whether a plan holds, and behind each fall, injections staying, no line bears more than it may then."""
    inject = injections_of(grid, plan)
    return all([are_within(line_flows(case[0], inject), limits_in(case)) for case in cases_of(grid, falls)])


def plan_holds(grid, plan):
    """Tell whether no line's flow is beyond its limit."""
    return are_within(plan_flows(grid, plan), limits_in((grid, ONE)))


def amounts_of(users):
    """Return the most of each plant, or the need of each load, as ratios."""
    return [(user[2], 1) for user in users]


def money_of(users):
    """Return the price of each plant, or the worth of each load, as ratios."""
    return [(user[3], 1) for user in users]


def plan_cost(grid, plan):
    """Return what a plan costs: made times price."""
    return dot(plan[0], money_of(grid[2]))


def plan_loss(grid, plan):
    """Return what a plan loses: worth times shed."""
    return dot(plan[1], money_of(grid[3]))
