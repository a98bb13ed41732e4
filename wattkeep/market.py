"""A market: what is paid and got at the prices of a paper, and what rights to send power are worth by it."""

from wattkeep.cascades import parts_served
from wattkeep.errors import BadPlan
from wattkeep.flows import check_injections, line_flows
from wattkeep.grids import check_grid
from wattkeep.papers import is_paper_of, prices_at, rents_fit
from wattkeep.plans import amounts_of, are_within, check_plan, limits_in, money_of, plan_flows
from wattkeep.ratios import ONE, ZERO, dot, minus, negative, size, times


def check_paper(grid, paper):
    """Raise BadPlan unless a value is a paper of a grid whose pulls balance."""
    if not is_paper_of(grid, grid, paper):
        raise BadPlan("no paper whose pulls balance")


def check_fit(grid, plan, paper):
    """Raise BadPlan unless a value is a plan of a grid, and another one a paper that fits it."""
    check_plan(grid, plan)
    check_paper(grid, paper)
    if not rents_fit(plan_flows(grid, plan), limits_in((grid, ONE)), paper[1]):
        raise BadPlan("rents on lines that are not full")


def settlement(grid, plan, paper):
    """Return (paid, got, rents): what each load pays, what each plant gets, and what the lines bear for their rents."""
    check_grid(grid)
    check_fit(grid, plan, paper)
    paid = [times(price, part) for price, part in zip(prices_at(grid, grid[3], (paper,)), parts_served(grid, plan))]
    got = [times(price, part) for price, part in zip(prices_at(grid, grid[2], (paper,)), plan[0])]
    return (tuple(paid), tuple(got), dot(limits_in((grid, ONE)), [size(rent) for rent in paper[1]]))


def gains(grid, plan, paper):
    """Return for each plant (what it gains by what it makes, the most that any amount would gain it)."""
    check_grid(grid)
    check_fit(grid, plan, paper)
    margins = [minus(price, own) for price, own in zip(prices_at(grid, grid[2], (paper,)), money_of(grid[2]))]
    found = []
    for margin, made, most in zip(margins, plan[0], amounts_of(grid[2])):
        # A plant that would lose by each unit does best to make nothing.
        found.append((times(made, margin), times(most, margin) if margin[0] > 0 else ZERO))
    return tuple(found)


def rights_worth(grid, paper, rights):
    """Return the negative of the sum of price times right."""
    check_grid(grid)
    check_paper(grid, paper)
    check_injections(grid, rights)
    return negative(dot(paper[0], rights))


def are_borne(grid, rights):
    """Tell whether the lines could bear rights within their limits."""
    check_grid(grid)
    check_injections(grid, rights)
    return are_within(line_flows(grid, rights), limits_in((grid, ONE)))
