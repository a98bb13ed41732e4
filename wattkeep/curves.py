"""Curves: what the cheapest plan costs for all needs of a load."""

from wattkeep.errors import BadNumber
from wattkeep.falls import NO_FALLS
from wattkeep.grids import MOST_AMOUNT, check_grid, load_place
from wattkeep.planning import columns_of, nets_of, plan_rows, taken_by
from wattkeep.plans import amounts_of, money_of
from wattkeep.programs import best_of
from wattkeep.ratios import ZERO, are_ratios, by, dot, is_above, is_between, is_ratio, minus, negative, plus, times
from wattkeep.ratios import unit


def need_program(grid, place, most):
    """Return (prices, rows, rights) of what plants make and then what one load needs, from 0 to most.

    The others' needs stay.
    """
    columns = columns_of(grid, grid[2], 1) + columns_of(grid, grid[3][place:place + 1], -1)
    bounds = amounts_of(grid[2]) + [(most, 1)]
    needs = [ZERO if at == place else need for at, need in enumerate(amounts_of(grid[3]))]
    rows, rights = plan_rows(grid, nets_of(grid, NO_FALLS), columns, bounds, taken_by(grid, needs))
    return money_of(grid[2]) + [ZERO], rows, rights


def least_need(program, sign):
    """Return the least need that has a plan if sign is 1, the greatest one if it is -1, None if none has a plan."""
    prices, rows, rights = program
    told = best_of([ZERO] * (len(prices) - 1) + [(sign, 1)], rows, rights)
    return None if told[0] == "none" else told[1][-1]


def spot_at(program, need):
    """Return (need, cost) for a need that has a plan."""
    prices, rows, rights = program
    held = unit(len(prices), len(prices) - 1)
    told = best_of(prices, rows + [held, [negative(part) for part in held]], rights + [need, negative(need)])
    return (need, dot(prices, told[1]))


def spot_along(program, slope):
    """Return (need, cost) at which cost less slope times need is least."""
    prices, rows, rights = program
    told = best_of(prices[:-1] + [negative(slope)], rows, rights)
    return (told[1][-1], dot(prices, told[1]))


def slope_of(start, end):
    """Return the slope of the way from a spot to another one."""
    return by(minus(end[1], start[1]), minus(end[0], start[0]))


def spots_between(program, start, end):
    """Return spots of the curve between two of them, with all at which it bends.

    The curve lies below the way from the one spot to the other, if it bends between them: then the spot that lies
    farthest below parts what is left to find.
    """
    slope = slope_of(start, end)
    spot = spot_along(program, slope)
    if minus(spot[1], start[1]) == times(slope, minus(spot[0], start[0])):
        return []
    return spots_between(program, start, spot) + [spot] + spots_between(program, spot, end)


def pieces_of(spots):
    """Return the pieces between spots, with those of one slope made one."""
    pieces = []
    for start, end in zip(spots, spots[1:]):
        slope = slope_of(start, end)
        if pieces and pieces[-1][3] == slope:
            pieces[-1] = (pieces[-1][0], end[0], pieces[-1][2], slope)
        else:
            pieces.append((start[0], end[0], start[1], slope))
    return tuple(pieces)


def cost_curve(grid, name, most):
    """Return the pieces (from, to, cost at from, slope) of what the cheapest plan costs by what a load needs."""
    check_grid(grid)
    place = load_place(grid, name)
    if not is_between(most, 0, MOST_AMOUNT):
        raise BadNumber("no integer from 0 to 999")
    program = need_program(grid, place, most)
    low = least_need(program, 1)
    if low is None:
        return ()
    start = spot_at(program, low)
    high = least_need(program, -1)
    if low == high:
        return ((low, low, start[1], ZERO),)
    end = spot_at(program, high)
    return pieces_of([start] + spots_between(program, start, end) + [end])


def is_curve(value):
    """Tell whether a value is a tuple of pieces of four ratios."""
    return isinstance(value, tuple) and all([are_ratios(piece, 4) for piece in value])


def cost_at(curve, need):
    """Return what a curve tells of a need, None outside of its pieces."""
    if not is_curve(curve) or not is_ratio(need):
        raise BadNumber("no curve, or no ratio")
    for start, end, cost, slope in curve:
        if not is_above(start, need) and not is_above(need, end):
            return plus(cost, times(slope, minus(need, start)))
    return None
