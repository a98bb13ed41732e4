"""Papers: whether prices and rents show that no plan is cheaper, or loses less, or that there is none.

A row of papers has a paper of no fall and then one of each fall; what plants and loads go by is the sum of the prices.
"""

from wattkeep.falls import cases_of
from wattkeep.flows import line_flows
from wattkeep.grids import line_ends
from wattkeep.plans import amounts_of, injections_of, is_plan_of, is_safe_behind, limits_in, money_of, plan_loss
from wattkeep.plans import spots_of
from wattkeep.ratios import ZERO, are_ratios, by, dot, is_above, is_ratio, minus, negative, plus, size, times, total


def with_row(value):
    """Return a value that ends in one paper as one that ends in a row of one paper."""
    if not isinstance(value, tuple):
        return value
    return value[:-1] + (value[-1:],)


def pulls_of(grid, paper):
    """Return the pull of each line."""
    prices, rents = paper
    found = []
    for line, (one, other), rent in zip(grid[1], line_ends(grid), rents):
        gap = minus(prices[other], prices[one])
        found.append(by(minus(gap, rent), (line[3], 1)))
    return tuple(found)


def pull_sums(grid, paper):
    """Return for each node the pulls of the lines that begin there less those of the lines that end there."""
    sums = [ZERO] * len(grid[0])
    for (one, other), pull in zip(line_ends(grid), pulls_of(grid, paper)):
        sums[one] = plus(sums[one], pull)
        sums[other] = minus(sums[other], pull)
    return sums


def rents_left(grid, left, rents):
    """Return the rents of the lines that are left."""
    return [rent for line, rent in zip(grid[1], rents) if line in left[1]]


def is_paper_of(grid, left, value):
    """Tell whether a value is a paper of a grid: rents 0 where a line fell, pulls that balance on what is left."""
    if not isinstance(value, tuple) or len(value) != 2:
        return False
    prices, rents = value
    if not are_ratios(prices, len(grid[0])) or not are_ratios(rents, len(grid[1])):
        return False
    if any([rent != ZERO and line not in left[1] for line, rent in zip(grid[1], rents)]):
        return False
    return not any([part != ZERO for part in pull_sums(left, (prices, rents_left(grid, left, rents)))])


def are_papers_of(grid, falls, value):
    """Tell whether a value is papers of no fall and of each fall."""
    cases = cases_of(grid, falls)
    if not isinstance(value, tuple) or len(value) != len(cases):
        return False
    return all([is_paper_of(grid, case[0], paper) for case, paper in zip(cases, value)])


def rents_fit(flows, limits, rents):
    """Tell whether rents are above 0 only on lines full from one to other, below 0 only on those full the other way."""
    for flow, limit, rent in zip(flows, limits, rents):
        if rent[0] > 0 and flow != limit:
            return False
        if rent[0] < 0 and flow != negative(limit):
            return False
    return True


def stands(grid, falls, plan, papers):
    """Tell whether a value is a plan that is safe, and another one papers of it whose rents stand on full lines."""
    if not is_plan_of(grid, plan) or not are_papers_of(grid, falls, papers):
        return False
    if not is_safe_behind(grid, plan, falls):
        return False
    inject = injections_of(grid, plan)
    for case, paper in zip(cases_of(grid, falls), papers):
        left = case[0]
        if not rents_fit(line_flows(left, inject), limits_in(case), rents_left(grid, left, paper[1])):
            return False
    return True


def prices_at(grid, users, papers):
    """Return, for each plant or load, the sum of the prices at its node."""
    return [total([paper[0][at] for paper in papers]) for at in spots_of(grid, users)]


def parts_fit(parts, mosts, owns, prices):
    """Tell whether each part is all it can be where the price is above its own, 0 where the price is below."""
    for part, most, own, price in zip(parts, mosts, owns, prices):
        if is_above(price, own) and part != most:
            return False
        if is_above(own, price) and part != ZERO:
            return False
    return True


def shows_cheapest_plan(grid, falls, plan, papers):
    """Tell whether a plan sheds nothing, is safe and costs the least of these, as the papers show."""
    if not stands(grid, falls, plan, papers) or any([part != ZERO for part in plan[1]]):
        return False
    return parts_fit(plan[0], amounts_of(grid[2]), money_of(grid[2]), prices_at(grid, grid[2], papers))


def shows_no_plan(grid, falls, papers):
    """Tell whether the papers show that no plan sheds nothing and is safe."""
    if not are_papers_of(grid, falls, papers):
        return False
    needed = dot(prices_at(grid, grid[3], papers), amounts_of(grid[3]))
    made = [times(price, most) for price, most in zip(prices_at(grid, grid[2], papers), amounts_of(grid[2]))]
    found = total([part for part in made if part[0] > 0])
    for case, paper in zip(cases_of(grid, falls), papers):
        rents = [size(rent) for rent in rents_left(grid, case[0], paper[1])]
        found = plus(found, dot(limits_in(case), rents))
    return is_above(needed, found)


def shows_best_of(grid, falls, plan, papers, rate):
    """Tell whether a plan is safe, and costs the least of those that lose at most as much, as papers and rate show."""
    if not stands(grid, falls, plan, papers) or not is_ratio(rate) or rate[0] < 0:
        return False
    if not parts_fit(plan[0], amounts_of(grid[2]), money_of(grid[2]), prices_at(grid, grid[2], papers)):
        return False
    worths = [times(rate, worth) for worth in money_of(grid[3])]
    return parts_fit(plan[1], amounts_of(grid[3]), worths, prices_at(grid, grid[3], papers))


def is_cheapest(grid, falls, value):
    """Tell whether a value is ("plan", plan, papers) or ("none", papers) of a cheapest safe plan that sheds nothing."""
    if not isinstance(value, tuple) or not 2 <= len(value) <= 3:
        return False
    if len(value) == 2:
        return value[0] == "none" and shows_no_plan(grid, falls, value[1])
    return value[0] == "plan" and shows_cheapest_plan(grid, falls, value[1], value[2])


def is_least(grid, falls, mosts, value):
    """Tell whether a value is (plan, papers) of a safe plan that makes at most so much and loses the least."""
    if not isinstance(value, tuple) or len(value) != 2:
        return False
    plan, papers = value
    if not stands(grid, falls, plan, papers):
        return False
    if any([is_above(part, most) for part, most in zip(plan[0], mosts)]):
        return False
    free = [ZERO for _ in mosts]
    if not parts_fit(plan[0], mosts, free, prices_at(grid, grid[2], papers)):
        return False
    return parts_fit(plan[1], amounts_of(grid[3]), money_of(grid[3]), prices_at(grid, grid[3], papers))


def is_best(grid, falls, value):
    """Tell whether a value is (plan, papers, rate, least) of a safe plan that loses the least and is the cheapest."""
    if not isinstance(value, tuple) or len(value) != 4:
        return False
    plan, papers, rate, least = value
    if not is_least(grid, falls, amounts_of(grid[2]), least) or not shows_best_of(grid, falls, plan, papers, rate):
        return False
    return plan_loss(grid, plan) == plan_loss(grid, least[0])
