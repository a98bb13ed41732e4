"""Fitting: the angles that come nearest to readings that need not fit each other."""

from wattkeep.errors import BadMeters
from wattkeep.grids import check_grid
from wattkeep.meters import angles_in, check_meters, forms_of, free_places, reads_of, whole_form
from wattkeep.ratios import dot, is_between, minus, times, whole
from wattkeep.systems import eliminated

MOST_WEIGHT = 99


def check_weights(meters, weights):
    """Raise BadMeters unless a value is weights of readings."""
    if not isinstance(weights, tuple) or len(weights) != len(meters):
        raise BadMeters("no weight for each reading")
    if not all([is_between(weight, 1, MOST_WEIGHT) for weight in weights]):
        raise BadMeters("a weight beyond its bounds")


def least_squares(forms, reads, weights):
    """Return the equations of the angles with which the weighted sum of squares is least, each (*row, right).

    Where it is least, no angle moves it: each column of the forms, weighted, comes to 0 with what the readings miss.
    """
    width = len(forms[0]) if forms else 0
    full = [[*form, read] for form, read in zip(forms, reads)]
    equations = []
    for col in range(width):
        pulls = [times((weight, 1), form[col]) for weight, form in zip(weights, forms)]
        equations.append([dot(pulls, [row[at] for row in full]) for at in range(width + 1)])
    return equations


def squares_missed(grid, meters, weights, angles):
    """Return the sum of weight times the square of what a reading tells more than angles."""
    missed = [minus(reading[2], dot(whole_form(grid, reading), angles)) for reading in meters]
    return dot([(weight, 1) for weight in weights], [times(part, part) for part in missed])


def fitted(grid, meters, weights):
    """Return (angles, sum): the least weighted sum of squares, and its angles, None if more than one tuple has it."""
    check_grid(grid)
    check_meters(grid, meters)
    check_weights(meters, weights)
    width = len(free_places(grid))
    equations = least_squares(forms_of(grid, meters), reads_of(meters), weights)
    done, _, columns = eliminated([whole(row)[1] for row in equations], width)
    angles = tuple([angle for angle, _ in angles_in(grid, done, columns, width)])
    return (angles if len(columns) == width else None, squares_missed(grid, meters, weights, angles))
