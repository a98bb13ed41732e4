"""Plans: what the plants make and the loads shed, and the cheapest plan with the paper that shows it."""

from wattkeep.errors import BadPlan
from wattkeep.flows import are_injections, line_flows, share_table
from wattkeep.grids import check_grid, first_places, island_places, line_ends
from wattkeep.programs import best_of
from wattkeep.ratios import ONE, ZERO, are_ratios, by, dot, is_above, minus, negative, plus, size, times, total, unit


def stands_within(parts, users):
    """Tell whether each part is from 0 to the amount of its plant or load."""
    return all([0 <= part[0] <= part[1] * user[2] for part, user in zip(parts, users)])


def injections_of(grid, plan):
    """Return, for each node, what is made less what is needed and not shed."""
    inject = [ZERO] * len(grid[0])
    for plant, part in zip(grid[2], plan[0]):
        at = grid[0].index(plant[1])
        inject[at] = plus(inject[at], part)
    for load, part in zip(grid[3], plan[1]):
        at = grid[0].index(load[1])
        inject[at] = plus(inject[at], minus(part, (load[2], 1)))
    return tuple(inject)


def is_plan_of(grid, value):
    """Tell whether a value is a plan of a grid that is known to be one."""
    if not isinstance(value, tuple) or len(value) != 2:
        return False
    made, shed = value
    if not are_ratios(made, len(grid[2])) or not are_ratios(shed, len(grid[3])):
        return False
    if not stands_within(made, grid[2]) or not stands_within(shed, grid[3]):
        return False
    return are_injections(grid, injections_of(grid, value))


def check_plan(grid, plan):
    """Raise BadPlan for a value that is no plan of a grid."""
    if not is_plan_of(grid, plan):
        raise BadPlan("no plan")


def plan_flows(grid, plan):
    """Return the flows of a plan that is known to be one."""
    return line_flows(grid, injections_of(grid, plan))


def plan_holds(grid, plan):
    """Tell whether no line's flow is beyond its limit, for a plan that is known to be one."""
    return not any([is_above(size(flow), (line[4], 1)) for line, flow in zip(grid[1], plan_flows(grid, plan))])


def sums_over(users, parts, item):
    """Return the sum over plants or loads of a part times an item."""
    return total([times(part, (user[item], 1)) for user, part in zip(users, parts)])


def is_paper_of(grid, value):
    """Tell whether a value is a paper of a grid: prices and rents whose pulls balance."""
    if not isinstance(value, tuple) or len(value) != 2:
        return False
    prices, rents = value
    if not are_ratios(prices, len(grid[0])) or not are_ratios(rents, len(grid[1])):
        return False
    return not any([part != ZERO for part in pull_sums(grid, value)])


def pulls_of(grid, paper):
    """Return the pull of each line."""
    prices, rents = paper
    found = []
    for line, (one, other), rent in zip(grid[1], line_ends(grid), rents):
        gap = minus(prices[other], prices[one])
        found.append(by(minus(gap, rent), (line[3], 1)))
    return tuple(found)


def pull_sums(grid, paper):
    """Return for each node the pulls of the lines that begin there less those of the lines that end there."""
    sums = [ZERO] * len(grid[0])
    for (one, other), pull in zip(line_ends(grid), pulls_of(grid, paper)):
        sums[one] = plus(sums[one], pull)
        sums[other] = minus(sums[other], pull)
    return sums


def rents_fit(grid, carried, rents):
    """Tell whether rents are above 0 only on lines full from one to other, below 0 on those full the other way."""
    for line, flow, rent in zip(grid[1], carried, rents):
        if rent[0] > 0 and flow != (line[4], 1):
            return False
        if rent[0] < 0 and flow != (-line[4], 1):
            return False
    return True


def makes_fit(grid, made, prices):
    """Tell whether plants make all they can where the price is above their own, nothing where it is below."""
    for plant, part in zip(grid[2], made):
        price = prices[grid[0].index(plant[1])]
        own = (plant[3], 1)
        if is_above(price, own) and part != (plant[2], 1):
            return False
        if is_above(own, price) and part != ZERO:
            return False
    return True


def plan_rows(grid, shared):
    """Return (rows, rights) of a program whose points are what plants make in plans that shed nothing and hold.

    The rows are those of the plants' mosts, those of the islands twice and those of the lines twice: an amount is
    held between two bounds by a row for the one and a row for the other.
    """
    spots = [grid[0].index(plant[1]) for plant in grid[2]]
    mosts = [unit(len(spots), at) for at in range(len(spots))]
    taken = injections_of(grid, ((), tuple([ZERO for _ in grid[3]])))
    inside = [[ONE if at in places else ZERO for at in spots] for places in island_places(grid)]
    needs = [negative(total([taken[at] for at in places])) for places in island_places(grid)]
    borne = [[parts[at] for at in spots] for parts in shared]
    bases = [dot(parts, taken) for parts in shared]
    limits = [(line[4], 1) for line in grid[1]]
    rows = mosts + inside + turned_rows(inside) + borne + turned_rows(borne)
    rights = [(plant[2], 1) for plant in grid[2]] + needs + [negative(need) for need in needs]
    rights = rights + [minus(limit, base) for limit, base in zip(limits, bases)]
    return rows, rights + [plus(limit, base) for limit, base in zip(limits, bases)]


def turned_rows(rows):
    """Return rows with the signs of all ratios turned."""
    return [[negative(part) for part in row] for row in rows]


def paper_from(grid, shared, told):
    """Return the paper that the program's paper tells, a ratio for each of the rows of plan_rows.

    The price of a node is that of its island less what the rents take for what a unit from there puts on the lines.
    """
    islands_at = len(grid[2])
    count = len(island_places(grid))
    lines_at = islands_at + 2 * count
    many = len(grid[1])
    most = told[islands_at:islands_at + count]
    least = told[islands_at + count:lines_at]
    bases = [minus(low, high) for low, high in zip(least, most)]
    along = told[lines_at:lines_at + many]
    against = told[lines_at + many:]
    rents = [minus(one, other) for one, other in zip(along, against)]
    prices = []
    for at, base in enumerate(node_bases(grid, bases)):
        prices.append(minus(base, dot([parts[at] for parts in shared], rents)))
    return (tuple(prices), tuple(rents))


def node_bases(grid, bases):
    """Return for each node what is told for its island."""
    known = {places[0]: base for places, base in zip(island_places(grid), bases)}
    return [known[first] for first in first_places(grid)]


def shows_plan(grid, plan, paper):
    """Tell whether a plan is a cheapest one, as the paper shows."""
    if not is_plan_of(grid, plan) or not is_paper_of(grid, paper):
        return False
    if any([part != ZERO for part in plan[1]]) or not plan_holds(grid, plan):
        return False
    return rents_fit(grid, plan_flows(grid, plan), paper[1]) and makes_fit(grid, plan[0], paper[0])


def shows_no_plan(grid, paper):
    """Tell whether the paper shows that no plan sheds nothing and holds."""
    if not is_paper_of(grid, paper):
        return False
    prices, rents = paper
    needed = total([times(prices[grid[0].index(load[1])], (load[2], 1)) for load in grid[3]])
    made = [times(prices[grid[0].index(plant[1])], (plant[2], 1)) for plant in grid[2]]
    borne = total([times(size(rent), (line[4], 1)) for line, rent in zip(grid[1], rents)])
    return is_above(needed, plus(total([part for part in made if part[0] > 0]), borne))


def is_plan(grid, value):
    """Tell whether a value is a plan of a grid."""
    check_grid(grid)
    return is_plan_of(grid, value)


def flows_of(grid, plan):
    """Return the flows of a plan."""
    check_grid(grid)
    check_plan(grid, plan)
    return plan_flows(grid, plan)


def cost_of(grid, plan):
    """Return what a plan costs: made times price."""
    check_grid(grid)
    check_plan(grid, plan)
    return sums_over(grid[2], plan[0], 3)


def holds(grid, plan):
    """Tell whether no line's flow is beyond its limit, either way."""
    check_grid(grid)
    check_plan(grid, plan)
    return plan_holds(grid, plan)


def cheapest(grid):
    """Return ("plan", plan, paper) with a cheapest plan, or ("none", paper) if no plan sheds nothing and holds."""
    check_grid(grid)
    shared = share_table(grid)
    rows, rights = plan_rows(grid, shared)
    told = best_of([(plant[3], 1) for plant in grid[2]], rows, rights)
    paper = paper_from(grid, shared, told[-1])
    if told[0] == "none":
        return ("none", paper)
    return ("plan", (told[1], tuple([ZERO for _ in grid[3]])), paper)


def shows_cheapest(grid, value):
    """Tell whether a value is what cheapest may tell."""
    check_grid(grid)
    if not isinstance(value, tuple) or not 2 <= len(value) <= 3:
        return False
    if len(value) == 2:
        return value[0] == "none" and shows_no_plan(grid, value[1])
    return value[0] == "plan" and shows_plan(grid, value[1], value[2])
