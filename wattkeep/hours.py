"""Hours: plans of some hours with stores and ramps, and the program that shows that they cost the least."""

from wattkeep.errors import BadHours, BadStores
from wattkeep.falls import NO_FALLS
from wattkeep.grids import MOST_AMOUNT, check_grid, is_name
from wattkeep.planning import columns_of, nets_of, plan_rows, taken_by, turned_rows
from wattkeep.plans import amounts_of, money_of
from wattkeep.programs import best_of, is_told
from wattkeep.ratios import ONE, ZERO, are_ratios, is_between

MOST_HOURS = 3
MOST_STORES = 2


def are_amounts(value, count):
    """Tell whether a value is a tuple of so many integers from 0 to 999."""
    if not isinstance(value, tuple) or len(value) != count:
        return False
    return all([is_between(amount, 0, MOST_AMOUNT) for amount in value])


def check_hours(grid, hours):
    """Raise BadHours unless a value is hours of a grid."""
    if not isinstance(hours, tuple) or not 1 <= len(hours) <= MOST_HOURS:
        raise BadHours("no tuple of 1 to 3 hours")
    if not all([are_amounts(hour, len(grid[3])) for hour in hours]):
        raise BadHours("an hour without a need for each load")


def is_store(grid, value):
    """Tell whether a value is a store at a node of a grid."""
    if not isinstance(value, tuple) or len(value) != 5:
        return False
    if not is_name(value[0]) or value[1] not in grid[0] or not are_amounts(value[2:], 3):
        return False
    return value[4] <= value[2]


def check_stores(grid, stores):
    """Raise BadStores unless a value is stores of a grid."""
    if not isinstance(stores, tuple) or len(stores) > MOST_STORES:
        raise BadStores("no tuple of at most 2 stores")
    if not all([is_store(grid, store) for store in stores]):
        raise BadStores("no store")
    if len(set([store[0] for store in stores])) < len(stores):
        raise BadStores("two stores of one name")


def check_ramps(grid, ramps):
    """Raise BadHours unless a value is ramps of a grid."""
    if not are_amounts(ramps, len(grid[2])):
        raise BadHours("no ramp for each plant")


def spread(row, hour, hours):
    """Return a row of one hour's parts as a row of the parts of all hours."""
    return [ZERO] * (len(row) * hour) + row + [ZERO] * (len(row) * (hours - hour - 1))


def hour_rows(grid, hours, stores):
    """Return (rows, rights): the plants and stores stay within their bounds and the lines bear it, in each hour."""
    nets = nets_of(grid, NO_FALLS)
    columns = columns_of(grid, grid[2], 1) + columns_of(grid, stores, 1) + columns_of(grid, stores, -1)
    rates = [(store[3], 1) for store in stores]
    bounds = amounts_of(grid[2]) + rates + rates
    rows, rights = [], []
    for at, hour in enumerate(hours):
        taken = taken_by(grid, [(need, 1) for need in hour])
        found, most = plan_rows(grid, nets, columns, bounds, taken)
        rows = rows + [spread(row, at, len(hours)) for row in found]
        rights = rights + most
    return rows, rights


def ramp_rows(width, hours, ramps):
    """Return (rows, rights): from hour to hour a plant's part moves by at most its ramp, either way."""
    rows, rights = [], []
    for hour in range(hours - 1):
        for at, ramp in enumerate(ramps):
            row = [ZERO] * (width * hours)
            row[width * hour + at] = (-1, 1)
            row[width * hour + width + at] = ONE
            rows = rows + [row] + turned_rows([row])
            rights = rights + [(ramp, 1), (ramp, 1)]
    return rows, rights


def store_rows(plants, hours, stores):
    """Return (rows, rights): behind each hour what a store holds is from 0 to its room."""
    width = plants + 2 * len(stores)
    rows, rights = [], []
    for at, store in enumerate(stores):
        row = [ZERO] * (width * hours)
        for hour in range(hours):
            row[width * hour + plants + at] = (-1, 1)
            row[width * hour + plants + len(stores) + at] = ONE
            rows = rows + [list(row)] + turned_rows([row])
            rights = rights + [(store[2] - store[4], 1), (store[4], 1)]
    return rows, rights


def hours_program(grid, hours, stores, ramps):
    """Return the program of plans of all hours: for each hour what plants make, what stores give and what they take.

    Its point has these amounts hour by hour.
    """
    many = len(grid[2])
    own = money_of(grid[2]) + [ZERO] * (2 * len(stores))
    rows, rights = hour_rows(grid, hours, stores)
    moves, ramped = ramp_rows(len(own), len(hours), ramps)
    stocks, rooms = store_rows(many, len(hours), stores)
    rows = [tuple(row) for row in rows + moves + stocks]
    return (tuple(own * len(hours)), tuple(rows), tuple(rights + ramped + rooms))


def parts_from(grid, hours, stores, point):
    """Return the parts of all hours that a point of the program tells."""
    many, both = len(grid[2]), len(stores)
    width = many + 2 * both
    parts = []
    for hour in range(len(hours)):
        own = point[width * hour:width * hour + width]
        parts.append((own[:many], own[many:many + both], own[many + both:]))
    return tuple(parts)


def hours_plan(grid, hours, stores, ramps):
    """Return ("plan", parts, told) with parts of all hours that cost the least, or ("none", told)."""
    check_grid(grid)
    check_hours(grid, hours)
    check_stores(grid, stores)
    check_ramps(grid, ramps)
    costs, rows, rights = hours_program(grid, hours, stores, ramps)
    told = best_of(costs, rows, rights)
    if told[0] == "none":
        return ("none", told)
    return ("plan", parts_from(grid, hours, stores, told[1]), told)


def are_exact(parts):
    """Tell whether all numbers of parts are ratios: True, which equals 1, is none."""
    return all([are_ratios(part, len(part)) for hour in parts for part in hour])


def shows_hours_plan(grid, hours, stores, ramps, value):
    """Tell whether a value may have been told so by hours_plan."""
    check_grid(grid)
    check_hours(grid, hours)
    check_stores(grid, stores)
    check_ramps(grid, ramps)
    if not isinstance(value, tuple) or not 2 <= len(value) <= 3:
        return False
    told = value[-1]
    if not is_told(hours_program(grid, hours, stores, ramps), told):
        return False
    if len(value) == 2:
        return value[0] == "none" and told[0] == "none"
    if value[0] != "plan" or told[0] != "best" or value[1] != parts_from(grid, hours, stores, told[1]):
        return False
    return are_exact(value[1])
