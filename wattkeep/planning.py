"""Programs of plans, and the plans and papers that their answers tell.

A net is (grid that is left, flows on its lines for a unit injected at each node, what its lines may bear), of no fall
or of a fall. A column is (place of a node, 1 or -1), for an amount that is injected there or taken out.
"""

from wattkeep.falls import cases_of, filled
from wattkeep.flows import share_table
from wattkeep.grids import first_places, island_places
from wattkeep.plans import amounts_of, limits_in, money_of, spots_of
from wattkeep.programs import best_of
from wattkeep.ratios import ZERO, dot, minus, negative, plus, times, total, unit


def nets_of(grid, falls):
    """Return the nets of no fall and of each fall."""
    return [(case[0], share_table(case[0]), limits_in(case)) for case in cases_of(grid, falls)]


def columns_of(grid, users, sign):
    """Return the columns of plants, loads or stores."""
    return [(at, sign) for at in spots_of(grid, users)]


def taken_by(grid, needs):
    """Return for each node what is injected if all needs of its loads are served: nothing, or less."""
    taken = [ZERO] * len(grid[0])
    for at, need in zip(spots_of(grid, grid[3]), needs):
        taken[at] = minus(taken[at], need)
    return taken


def turned_rows(rows):
    """Return rows with the signs of all ratios turned."""
    return [[negative(part) for part in row] for row in rows]


def plan_rows(grid, nets, columns, bounds, taken):
    """Return (rows, rights) of a program whose points are amounts that balance and that the lines can bear.

    The rows are those of the columns' bounds, those of the islands twice and, for each net, those of the lines twice:
    an amount is held between two bounds by a row for the one and a row for the other.
    """
    places = island_places(grid)
    inside = [[(sign, 1) if at in island else ZERO for at, sign in columns] for island in places]
    needs = [negative(total([taken[at] for at in island])) for island in places]
    rows = [unit(len(columns), at) for at in range(len(columns))] + inside + turned_rows(inside)
    rights = bounds + needs + [negative(need) for need in needs]
    for _, shared, limits in nets:
        borne = [[times((sign, 1), parts[at]) for at, sign in columns] for parts in shared]
        bases = [dot(parts, taken) for parts in shared]
        rows = rows + borne + turned_rows(borne)
        rights = rights + [minus(limit, base) for limit, base in zip(limits, bases)]
        rights = rights + [plus(limit, base) for limit, base in zip(limits, bases)]
    return rows, rights


def node_bases(grid, bases):
    """Return for each node what is told for its island."""
    known = {places[0]: base for places, base in zip(island_places(grid), bases)}
    return [known[first] for first in first_places(grid)]


def paper_of(grid, net, bases, rents):
    """Return the paper of the rents of a net's lines.

    The price of a node is that of its island less what the rents take for what a unit from there puts on the lines.
    """
    left, shared, _ = net
    prices = []
    for at, base in enumerate(node_bases(grid, bases)):
        prices.append(minus(base, dot([parts[at] for parts in shared], rents)))
    return (tuple(prices), filled(grid, left, rents, ZERO))


def papers_from(grid, nets, many, told):
    """Return the papers that a program's paper tells, a ratio for each row of plan_rows, many of them for bounds."""
    count = len(island_places(grid))
    at = many + 2 * count
    bases = [minus(low, high) for low, high in zip(told[many + count:at], told[many:many + count])]
    papers = []
    for net in nets:
        lines = len(net[2])
        along = told[at:at + lines]
        against = told[at + lines:at + 2 * lines]
        papers.append(paper_of(grid, net, bases, [minus(one, other) for one, other in zip(along, against)]))
        # What the islands' rows tell counts once, in the paper of no fall.
        bases = [ZERO] * count
        at = at + 2 * lines
    return tuple(papers)


def cheapest_plan(grid, falls):
    """Return ("plan", plan, papers) with a cheapest plan that sheds nothing and is safe, or ("none", papers)."""
    nets = nets_of(grid, falls)
    columns = columns_of(grid, grid[2], 1)
    rows, rights = plan_rows(grid, nets, columns, amounts_of(grid[2]), taken_by(grid, amounts_of(grid[3])))
    told = best_of(money_of(grid[2]), rows, rights)
    papers = papers_from(grid, nets, len(columns), told[-1])
    if told[0] == "none":
        return ("none", papers)
    return ("plan", (told[1], tuple([ZERO for _ in grid[3]])), papers)


def served_rows(grid, nets, mosts):
    """Return (rows, rights) of a program of what plants make, at most so much, and then what loads are served."""
    columns = columns_of(grid, grid[2], 1) + columns_of(grid, grid[3], -1)
    return plan_rows(grid, nets, columns, mosts + amounts_of(grid[3]), [ZERO] * len(grid[0]))


def plan_at(grid, point):
    """Return the plan that a point of served_rows tells."""
    many = len(grid[2])
    shed = [minus(need, part) for need, part in zip(amounts_of(grid[3]), point[many:])]
    return (point[:many], tuple(shed))


def least_loss(grid, nets, mosts):
    """Return (plan, papers) with a safe plan that makes at most so much and loses the least of these."""
    rows, rights = served_rows(grid, nets, mosts)
    costs = [ZERO for _ in mosts] + [negative(worth) for worth in money_of(grid[3])]
    told = best_of(costs, rows, rights)
    return (plan_at(grid, told[1]), papers_from(grid, nets, len(costs), told[2]))


def cheapest_losing(grid, nets, loss):
    """Return (plan, papers, rate) with a safe plan that costs the least of those that lose at most so much."""
    rows, rights = served_rows(grid, nets, amounts_of(grid[2]))
    worths = money_of(grid[3])
    gained = [ZERO for _ in grid[2]] + [negative(worth) for worth in worths]
    most = minus(loss, dot(worths, amounts_of(grid[3])))
    told = best_of(money_of(grid[2]) + [ZERO for _ in worths], rows + [gained], rights + [most])
    return (plan_at(grid, told[1]), papers_from(grid, nets, len(gained), told[2]), told[2][-1])
