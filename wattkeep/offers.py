"""Offers: which lines to build within a budget so that the least is lost."""

from itertools import combinations

from wattkeep.errors import BadNumber, BadOffers
from wattkeep.grids import check_grid, is_grid
from wattkeep.lots import are_told, least_place, told_losses
from wattkeep.ratios import is_between, is_integer
from wattkeep.shedding import least_shed, shows_least_shed

MOST_OFFERS = 4
MOST_PRICE = 9999
MOST_BUDGET = 99999


def is_offer(value):
    """Tell whether a value is a pair of which the second is a price."""
    return isinstance(value, tuple) and len(value) == 2 and is_between(value[1], 0, MOST_PRICE)


def grid_with(grid, offers):
    """Return the grid with the lines of some offers behind its own."""
    return (grid[0], grid[1] + tuple([offer[0] for offer in offers]), grid[2], grid[3])


def check_offers(grid, offers):
    """Raise BadOffers unless a value is offers to a grid."""
    if not isinstance(offers, tuple) or len(offers) > MOST_OFFERS or not all([is_offer(offer) for offer in offers]):
        raise BadOffers("no tuple of at most four offers")
    if not is_grid(grid_with(grid, offers)):
        raise BadOffers("lines that the grid cannot have")


def check_budget(budget):
    """Raise BadNumber unless a value is a budget."""
    if not is_between(budget, 0, MOST_BUDGET):
        raise BadNumber("no budget")


def lots_within(offers, budget):
    """Return (price, places) of each lot of offers within the budget, ordered by price and then by places."""
    places = list(range(len(offers)))
    lots = []
    for count in range(len(offers) + 1):
        for lot in combinations(places, count):
            price = sum([offers[at][1] for at in lot])
            if price <= budget:
                lots.append((price, lot))
    return sorted(lots)


def grids_built(grid, offers, lots):
    """Return for each lot the grid with the lines of its offers."""
    return [grid_with(grid, [offers[at] for at in places]) for _, places in lots]


def first_build(grids, lots, tolds):
    """Return (places, price) of the first lot with which the least is lost."""
    price, places = lots[least_place(told_losses(grids, tolds))]
    return (places, price)


def best_build(grid, offers, budget):
    """Return (places, price, tolds): the offers to take, and what least_shed tells with each lot within the budget."""
    check_grid(grid)
    check_offers(grid, offers)
    check_budget(budget)
    lots = lots_within(offers, budget)
    grids = grids_built(grid, offers, lots)
    tolds = tuple([least_shed(built) for built in grids])
    return first_build(grids, lots, tolds) + (tolds,)


def shows_best_build(grid, offers, budget, value):
    """Tell whether a value is what best_build may tell."""
    check_grid(grid)
    check_offers(grid, offers)
    check_budget(budget)
    if not isinstance(value, tuple) or len(value) != 3:
        return False
    places, price, tolds = value
    lots = lots_within(offers, budget)
    grids = grids_built(grid, offers, lots)
    if not are_told(shows_least_shed, grids, tolds) or (places, price) != first_build(grids, lots, tolds):
        return False
    # True equals 1, but is no integer.
    return is_integer(price) and all([is_integer(at) for at in places])
