"""The sums of the document, with Fractions: what plans, papers and answers must come to, computed beside the program.

Falls are (names, over), and papers a tuple of a paper of no fall and of each fall, as in point 17.
"""

from fractions import Fraction

from tests.support import fraction, fractions, islands_of, lacking, ratios
from wattkeep.flows import flows

NO_FALLS = ((), Fraction(1))


def spot(grid, item):
    return grid[0].index(item[1])


def bridge_names(grid):
    """Return the names of the lines without which there are more islands."""
    count = len(islands_of(grid))
    return tuple(line[0] for line in grid[1] if len(islands_of(lacking(grid, (line[0],)))) > count)


def ring_names(grid):
    """Return the names of the lines that are no bridges."""
    bridges = bridge_names(grid)
    return tuple(line[0] for line in grid[1] if line[0] not in bridges)


def injections(grid, plan):
    found = [Fraction(0)] * len(grid[0])
    for plant, made in zip(grid[2], fractions(plan[0])):
        found[spot(grid, plant)] += made
    for load, shed in zip(grid[3], fractions(plan[1])):
        found[spot(grid, load)] += shed - load[2]
    return ratios(*found)


def is_some_plan(grid, plan):
    """Tell whether a pair of tuples of ratios is a plan."""
    made, shed = [fractions(part) for part in plan]
    if len(made) != len(grid[2]) or len(shed) != len(grid[3]):
        return False
    if any(not 0 <= part <= user[2] for part, user in zip(made + shed, grid[2] + grid[3])):
        return False
    inject = dict(zip(grid[0], fractions(injections(grid, plan))))
    return not any(sum(inject[node] for node in island) for island in islands_of(grid))


def loss_of(grid, plan):
    return sum((shed * load[3] for shed, load in zip(fractions(plan[1]), grid[3])), Fraction(0))


def price_of(grid, plan):
    return sum((made * plant[3] for made, plant in zip(fractions(plan[0]), grid[2])), Fraction(0))


def cases(grid, falls):
    """Return (the grid that is left, the most that each line of the whole grid may bear) of no fall and of each fall."""
    names, over = falls
    found = [(grid, [Fraction(line[4]) for line in grid[1]])]
    return found + [(lacking(grid, (name,)), [line[4] * over for line in grid[1]]) for name in names]


def flows_in(grid, left, inject):
    """Return the flows of all lines on what is left of a grid, 0 on those that have fallen."""
    known = dict(zip([line[0] for line in left[1]], fractions(flows(left, inject))))
    return [known.get(line[0], Fraction(0)) for line in grid[1]]


def is_safe_plan(grid, falls, plan):
    inject = injections(grid, plan)
    for left, limits in cases(grid, falls):
        if any(abs(flow) > limit for flow, limit in zip(flows_in(grid, left, inject), limits)):
            return False
    return True


def pulls_balance(grid, left, prices, rents):
    """Tell whether a paper has rents 0 on what fell and pulls that balance on what is left."""
    if len(prices) != len(grid[0]) or len(rents) != len(grid[1]):
        return False
    sums = [Fraction(0)] * len(grid[0])
    for line, rent in zip(grid[1], rents):
        one, other = grid[0].index(line[1]), grid[0].index(line[2])
        if line not in left[1]:
            if rent:
                return False
            continue
        pull = (prices[other] - prices[one] - rent) / line[3]
        sums[one] += pull
        sums[other] -= pull
    return not any(sums)


def told_papers(papers):
    assert isinstance(papers, tuple), papers
    assert all(isinstance(paper, tuple) and len(paper) == 2 for paper in papers), papers
    return [(fractions(prices), fractions(rents)) for prices, rents in papers]


def are_papers(grid, falls, papers):
    told = told_papers(papers)
    lots = cases(grid, falls)
    if len(told) != len(lots):
        return False
    return all(pulls_balance(grid, left, *paper) for (left, _), paper in zip(lots, told))


def rents_stand(grid, falls, plan, papers):
    """Tell whether all rents stand on full lines, along them."""
    inject = injections(grid, plan)
    for (left, limits), (_, rents) in zip(cases(grid, falls), told_papers(papers)):
        for flow, limit, rent in zip(flows_in(grid, left, inject), limits, rents):
            if rent > 0 and flow != limit or rent < 0 and flow != -limit:
                return False
    return True


def summed(grid, papers, item):
    """Return the sum of all prices at the node of a plant or a load."""
    return sum(prices[spot(grid, item)] for prices, _ in told_papers(papers))


def follows(part, most, own, price):
    """Tell whether a part is all it can be where the price is above its own, and 0 where it is below."""
    return not (price > own and part != most or price < own and part != 0)


def plants_follow(grid, plan, papers, mosts, rate):
    return all(
        follows(made, most, plant[3] * rate, summed(grid, papers, plant))
        for plant, made, most in zip(grid[2], fractions(plan[0]), mosts)
    )


def loads_follow(grid, plan, papers, rate):
    return all(
        follows(shed, load[2], load[3] * rate, summed(grid, papers, load))
        for load, shed in zip(grid[3], fractions(plan[1]))
    )


def stands(grid, falls, plan, papers):
    """Tell whether a plan is safe and papers stand on what is full in it."""
    if not isinstance(plan, tuple) or len(plan) != 2 or not is_some_plan(grid, plan):
        return False
    return is_safe_plan(grid, falls, plan) and are_papers(grid, falls, papers) and rents_stand(grid, falls, plan, papers)


def mosts_of(grid):
    return [Fraction(plant[2]) for plant in grid[2]]


def is_none(grid, falls, papers):
    """Tell whether papers show that there is no plan, as points 13 and 17 say."""
    if not are_papers(grid, falls, papers):
        return False
    needs = sum(summed(grid, papers, load) * load[2] for load in grid[3])
    makes = sum(plant[2] * max(Fraction(0), summed(grid, papers, plant)) for plant in grid[2])
    borne = Fraction(0)
    for (_, limits), (_, rents) in zip(cases(grid, falls), told_papers(papers)):
        borne += sum(limit * abs(rent) for limit, rent in zip(limits, rents))
    return needs > makes + borne


def is_cheapest(grid, falls, told):
    """Tell whether ("plan", plan, papers) or ("none", papers) is as point 17 says."""
    if told[0] == "none" and len(told) == 2:
        return is_none(grid, falls, told[1])
    if told[0] != "plan" or len(told) != 3 or not stands(grid, falls, *told[1:]) or any(fractions(told[1][1])):
        return False
    return plants_follow(grid, *told[1:], mosts_of(grid), 1)


def is_least(grid, falls, mosts, told):
    """Tell whether (plan, papers) loses the least, as points 14, 18 and 42 say."""
    plan, papers = told
    if not stands(grid, falls, plan, papers) or any(made > most for made, most in zip(fractions(plan[0]), mosts)):
        return False
    return plants_follow(grid, plan, papers, mosts, 0) and loads_follow(grid, plan, papers, 1)


def is_best(grid, falls, told):
    """Tell whether (plan, papers, rate, least) is as points 15 and 42 say."""
    plan, papers, rate, least = told
    rate = fraction(rate)
    if not isinstance(least, tuple) or rate < 0 or not is_least(grid, falls, mosts_of(grid), least):
        return False
    if not stands(grid, falls, plan, papers) or loss_of(grid, plan) != loss_of(grid, least[0]):
        return False
    return plants_follow(grid, plan, papers, mosts_of(grid), 1) and loads_follow(grid, plan, papers, rate)


def some_plan(random, grid):
    """Return a plan of a grid: in each island what is made and what is served come to the same."""
    made, shed = {}, {}
    for island in islands_of(grid):
        plants = [plant for plant in grid[2] if plant[1] in island]
        loads = [load for load in grid[3] if load[1] in island]
        most = min(sum(plant[2] for plant in plants), sum(load[2] for load in loads))
        amount = most * Fraction(random.randint(0, 4), 4)
        left = amount
        for plant in random.sample(plants, len(plants)):
            made[plant[0]] = min(left, Fraction(plant[2]))
            left -= made[plant[0]]
        left = amount
        for load in random.sample(loads, len(loads)):
            served = min(left, Fraction(load[2]))
            shed[load[0]] = load[2] - served
            left -= served
    return (ratios(*[made[plant[0]] for plant in grid[2]]), ratios(*[shed[load[0]] for load in grid[3]]))


def product(ones, others):
    return sum((one * other for one, other in zip(ones, others)), Fraction(0))


def is_told(program, told):
    """Tell whether an answer has the sums of point 10, with Fractions."""
    costs, rights = fractions(program[0]), fractions(program[2])
    rows = [fractions(row) for row in program[1]]
    word, parts = told[0], [fractions(part) for part in told[1:]]
    if any(number < 0 for part in parts for number in part):
        return False
    if word == "none":
        (paper,) = parts
        sums = [product([row[col] for row in rows], paper) for col in range(len(costs))]
        return len(paper) == len(rows) and all(part >= 0 for part in sums) and product(rights, paper) < 0
    point, last = parts
    if len(point) != len(costs) or any(product(row, point) > right for row, right in zip(rows, rights)):
        return False
    if word == "endless":
        return len(last) == len(costs) and all(product(row, last) <= 0 for row in rows) and product(costs, last) < 0
    sums = [product([row[col] for row in rows], last) + costs[col] for col in range(len(costs))]
    same = product(costs, point) == -product(rights, last)
    return word == "best" and len(last) == len(rows) and all(part >= 0 for part in sums) and same


def taken_of(grid, reading):
    """Return what a reading takes of the angle of each node."""
    what, name = reading[:2]
    found = {node: Fraction(0) for node in grid[0]}
    if what == "angle":
        found[name] += 1
    for line in grid[1]:
        way = (line[0] == name) if what == "flow" else (line[1] == name) - (line[2] == name) if what == "inject" else 0
        found[line[1]] += Fraction(way, line[3])
        found[line[2]] -= Fraction(way, line[3])
    return found


def free_nodes(grid):
    """Return the nodes whose angles are not fixed."""
    firsts = [island[0] for island in islands_of(grid)]
    return [node for node in grid[0] if node not in firsts]


def table_of(grid, meters):
    """Return for each reading the row of what it takes of the angles that are not fixed."""
    free = free_nodes(grid)
    return [[taken_of(grid, reading)[node] for node in free] for reading in meters]


def missed_by(grid, meters, angles):
    """Return what each reading tells more than angles."""
    known = dict(zip(grid[0], angles))
    return [
        fraction(reading[2]) - sum(part * known[node] for node, part in taken_of(grid, reading).items())
        for reading in meters
    ]


def some_meters(random, grid, wrong=0, most=8):
    """Return readings of a grid that fit some angles but for so many of them."""
    firsts = [island[0] for island in islands_of(grid)]
    angles = [Fraction(0) if node in firsts else Fraction(random.randint(-9, 9), random.randint(1, 3)) for node in grid[0]]
    items = [("flow", line[0]) for line in grid[1]]
    items += [(what, node) for node in grid[0] for what in ("inject", "angle")]
    meters = []
    for what, name in [random.choice(items) for _ in range(random.randint(0, most))]:
        own = -missed_by(grid, [(what, name, (0, 1))], angles)[0]
        meters.append((what, name, ratios(own)[0]))
    for at in random.sample(range(len(meters)), min(wrong, len(meters))):
        what, name, read = meters[at]
        meters[at] = (what, name, ratios(fraction(read) + random.choice([-3, -1, Fraction(1, 2), 2]))[0])
    return tuple(meters)


def in_row(told):
    """Return an answer that ends in one paper as one that ends in a row of papers."""
    return told[:-1] + (told[-1:],)


def best_in_row(told):
    """Return an answer of best_plan as one of ready_plan."""
    plan, paper, rate, least = told
    return (plan, (paper,), rate, in_row(least))


def is_cheapest_told(grid, told):
    """Tell whether an answer is what cheapest may tell."""
    return isinstance(told, tuple) and is_cheapest(grid, NO_FALLS, in_row(told))


def is_least_told(grid, told):
    """Tell whether an answer is what least_shed may tell."""
    return isinstance(told, tuple) and len(told) == 2 and is_least(grid, NO_FALLS, mosts_of(grid), in_row(told))


def cost_told(grid, told):
    """Return what a plan costs that cheapest told, None if it told that there is none."""
    return price_of(grid, told[1]) if told[0] == "plan" else None


def expected(check, value):
    """Tell what a function whose name begins with shows must tell of any value, with a check of right answers."""
    if not isinstance(value, tuple):
        return False
    try:
        return check(value)
    except (AssertionError, ValueError, TypeError, IndexError):
        return False


def bent(value):
    """Return a value of nested tuples bent in one place, for each place and some ways to bend."""
    if isinstance(value, tuple) and len(value) == 2 and all(isinstance(part, int) for part in value):
        top, low = value
        return [(top + low, low), (top - low, low), (2 * top, 2 * low), (top, -low), [top, low], top, None, (True, low)]
    if isinstance(value, bool):
        return [not value, int(value), None]
    if isinstance(value, int):
        return [value + 1, value - 1, bool(value), None, (value, 1)]
    if not isinstance(value, tuple):
        return [None, 3, "", "plans", [value]]
    found = [value + (value,), list(value), None, {}, value + ((0, 1),)]
    if value:
        found.append(value[:-1])
    for at, part in enumerate(value):
        found += [value[:at] + (made,) + value[at + 1:] for made in bent(part)]
    return found


def try_bent(case, answer, check, shows):
    """Hold what shows tells of an answer bent in each place against a check; return how often it must tell False."""
    falses = 0
    for value in bent(answer):
        right = expected(check, value)
        falses += not right
        case.assertIs(shows(value), right, value)
    return falses
