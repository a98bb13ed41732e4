"""Meters: what readings of flows, injections and angles settle, and which of them are wrong.

The form of a reading is a row of what it takes of the angle of each node that is not fixed, free nodes for short; the
first nodes of the islands are fixed.
"""

from itertools import combinations

from wattkeep.errors import BadMeters
from wattkeep.grids import check_grid, first_places, line_ends
from wattkeep.ratios import ZERO, by, is_ratio, minus, plus, ratio, unit
from wattkeep.systems import refuted, worked

MOST_READINGS = 20
MOST_WRONG = 2


def is_reading(grid, value):
    """Tell whether a value is a reading of a grid."""
    if not isinstance(value, tuple) or len(value) != 3:
        return False
    what, name, read = value
    if what not in ("flow", "inject", "angle"):
        return False
    known = [line[0] for line in grid[1]] if what == "flow" else grid[0]
    return name in known and is_ratio(read)


def check_meters(grid, meters):
    """Raise BadMeters unless a value is readings of a grid."""
    if not isinstance(meters, tuple) or len(meters) > MOST_READINGS:
        raise BadMeters("no tuple of at most 20 readings")
    if not all([is_reading(grid, value) for value in meters]):
        raise BadMeters("no reading")


def line_forms(grid):
    """Return for each line the row of what its flow takes of the angle of each node."""
    forms = []
    for line, (one, other) in zip(grid[1], line_ends(grid)):
        form = [ZERO] * len(grid[0])
        form[one], form[other] = (1, line[3]), (-1, line[3])
        forms.append(form)
    return forms


def taken_out(grid, at):
    """Return the row of what the lines take out at a node, of the angle of each node."""
    found = [ZERO] * len(grid[0])
    for form, (one, other) in zip(line_forms(grid), line_ends(grid)):
        if at == one:
            found = [plus(part, own) for part, own in zip(found, form)]
        if at == other:
            found = [minus(part, own) for part, own in zip(found, form)]
    return found


def whole_form(grid, reading):
    """Return the row of what a reading takes of the angle of each node."""
    what, name = reading[:2]
    if what == "flow":
        return line_forms(grid)[[line[0] for line in grid[1]].index(name)]
    at = grid[0].index(name)
    return taken_out(grid, at) if what == "inject" else unit(len(grid[0]), at)


def free_places(grid):
    """Return the places of the nodes whose angles are not fixed."""
    return [at for at, first in enumerate(first_places(grid)) if at != first]


def forms_of(grid, meters):
    """Return the forms of readings."""
    free = free_places(grid)
    wholes = [whole_form(grid, reading) for reading in meters]
    return [[form[at] for at in free] for form in wholes]


def reads_of(meters):
    """Return what the readings tell."""
    return [reading[2] for reading in meters]


def worked_readings(grid, meters):
    """Return (done, left, columns, width) of an elimination of the forms of readings, width of them free nodes."""
    width = len(free_places(grid))
    return worked(forms_of(grid, meters), reads_of(meters), width) + (width,)


def angles_in(grid, done, columns, width):
    """Return for each node (its angle if the loose ones are 0, the row of what it takes of each loose one).

    Those are loose that no row of an elimination ties to others; fixed ones hang on nothing.
    """
    loose = [col for col in range(width) if col not in columns]
    found = [(ZERO, [ZERO] * len(loose)) for _ in grid[0]]
    free = free_places(grid)
    for place, col in enumerate(loose):
        found[free[col]] = (ZERO, unit(len(loose), place))
    for row, col in zip(done, columns):
        found[free[col]] = (ratio(row[width], row[col]), [ratio(-row[at], row[col]) for at in loose])
    return found


def state(grid, meters):
    """Return ("one", angles), ("many", names of nodes that are not settled) or ("none", paper that shows it)."""
    check_grid(grid)
    check_meters(grid, meters)
    done, left, columns, width = worked_readings(grid, meters)
    against = refuted(left, width)
    if against is not None:
        return ("none", against)
    known = angles_in(grid, done, columns, width)
    if len(columns) == width:
        return ("one", tuple([angle for angle, _ in known]))
    hanging = [any([part != ZERO for part in parts]) for _, parts in known]
    return ("many", tuple([node for node, hangs in zip(grid[0], hanging) if hangs]))


def told_flows(grid, meters):
    """Return the flows of the lines that are settled, None in the place of others; None if no angles fit."""
    check_grid(grid)
    check_meters(grid, meters)
    done, left, columns, width = worked_readings(grid, meters)
    if refuted(left, width) is not None:
        return None
    known = angles_in(grid, done, columns, width)
    found = []
    for line, (one, other) in zip(grid[1], line_ends(grid)):
        gap = minus(known[one][0], known[other][0])
        # A flow is settled if its ends hang on the loose angles alike: then those go out of it.
        found.append(by(gap, (line[3], 1)) if known[one][1] == known[other][1] else None)
    return tuple(found)


def needed(grid, meters):
    """Return the places of the readings without each of which less is settled, whatever they read."""
    check_grid(grid)
    check_meters(grid, meters)
    _, left, _, width = worked_readings(grid, meters)
    # A row that is left is a sum of forms that comes to 0: each reading in it hangs on the others in it.
    sums = [row[width + 1:] for row in left]
    return tuple([at for at in range(len(meters)) if not any([row[at] != 0 for row in sums])])


def some_fit(grid, meters):
    """Tell whether some angles fit readings."""
    _, left, _, width = worked_readings(grid, meters)
    return refuted(left, width) is None


def fewest_wrong(grid, meters):
    """Return the first of the shortest tuples of at most two places without which some angles fit, None without one."""
    check_grid(grid)
    check_meters(grid, meters)
    places = list(range(len(meters)))
    for count in range(MOST_WRONG + 1):
        for wrong in combinations(places, count):
            if some_fit(grid, [reading for at, reading in enumerate(meters) if at not in wrong]):
                return wrong
    return None
