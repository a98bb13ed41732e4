"""Cascades: how the lines trip, round by round, and what is left if nobody acts."""

from wattkeep.grids import check_grid, check_lines, island_places, without_lines
from wattkeep.plans import amounts_of, check_plan, limits_in, plan_flows, spots_of
from wattkeep.ratios import ONE, by, is_above, minus, size, times, total


def parts_served(grid, plan):
    """Return what is served of each load: what is needed and not shed."""
    return [minus(need, part) for need, part in zip(amounts_of(grid[3]), plan[1])]


def lessened(parts, places, goal):
    """Return parts, of which those at some places are lessened by one ratio so that they sum to a goal below theirs."""
    now = total([parts[at] for at in places])
    return [times(part, by(goal, now)) if at in places else part for at, part in enumerate(parts)]


def shared_plan(grid, plan):
    """Return a plan of the same nodes, plants and loads shared on a grid."""
    made, given = list(plan[0]), parts_served(grid, plan)
    for island in island_places(grid):
        plants = [place for place, at in enumerate(spots_of(grid, grid[2])) if at in island]
        loads = [place for place, at in enumerate(spots_of(grid, grid[3])) if at in island]
        supply = total([made[place] for place in plants])
        demand = total([given[place] for place in loads])
        if is_above(supply, demand):
            made = lessened(made, plants, demand)
        if is_above(demand, supply):
            given = lessened(given, loads, supply)
    shed = [minus(need, part) for need, part in zip(amounts_of(grid[3]), given)]
    return (tuple(made), tuple(shed))


def tripping(grid, plan):
    """Return the names of the lines that trip."""
    carried, limits = plan_flows(grid, plan), limits_in((grid, ONE))
    return tuple([line[0] for line, flow, limit in zip(grid[1], carried, limits) if is_above(size(flow), limit)])


def rounds_of(grid, plan):
    """Return the rounds of the cascade of a plan that is known to be one."""
    left, now = grid, plan
    names = tripping(left, now)
    rounds = []
    while names:
        left = without_lines(left, names)
        now = shared_plan(left, now)
        rounds.append((names, now))
        names = tripping(left, now)
    return tuple(rounds)


def left_behind(grid, names, plan):
    """Return (the grid without some lines, the plan shared on it)."""
    check_grid(grid)
    check_lines(grid, names)
    check_plan(grid, plan)
    left = without_lines(grid, names)
    return (left, shared_plan(left, plan))


def served(grid, plan):
    """Return the sum of what is needed and not shed."""
    check_grid(grid)
    check_plan(grid, plan)
    return total(parts_served(grid, plan))


def cascade(grid, plan):
    """Return the rounds in which lines trip, each a pair (names of the lines, plan behind)."""
    check_grid(grid)
    check_plan(grid, plan)
    return rounds_of(grid, plan)
