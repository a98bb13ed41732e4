"""Falls: what the other lines bear when lines fall and the injections stay."""

from wattkeep.errors import BadNumber, Bridge
from wattkeep.flows import check_injections, line_flows, transfer
from wattkeep.grids import check_grid, check_lines, is_bridge, line_place, without_lines
from wattkeep.ratios import ONE, ZERO, is_above, is_ratio

MOST_OVER = 9
# No line may fall.
NO_FALLS = ((), (1, 1))


def check_falls(grid, names):
    """Raise Bridge if one of these lines, falling one behind another, is a bridge by then or has fallen."""
    left = grid
    for at, name in enumerate(names):
        if name in names[:at] or is_bridge(left, name):
            raise Bridge("a bridge, or fallen")
        left = without_lines(left, (name,))


def check_each_fall(grid, names):
    """Raise BadName unless names is a tuple of names of lines, Bridge if one of these, falling alone, is a bridge."""
    check_lines(grid, names)
    if any([is_bridge(grid, name) for name in names]):
        raise Bridge("a bridge")


def check_over(over):
    """Raise BadNumber unless a value is a ratio from 1 to 9."""
    if not is_ratio(over) or is_above(ONE, over) or is_above(over, (MOST_OVER, 1)):
        raise BadNumber("no ratio from 1 to 9")


def cases_of(grid, falls):
    """Return (grid that is left, how much of its limit a line may bear there) of no fall and of each fall.

    Falls are (names, over): the lines of which any one may fall, and how much of its limit a line may bear behind it.
    """
    names, over = falls
    return [(grid, ONE)] + [(without_lines(grid, (name,)), over) for name in names]


def filled(grid, left, told, own):
    """Return what is told for the lines that are left, and own in the places of those that fell."""
    known = {line[0]: part for line, part in zip(left[1], told)}
    return tuple([known.get(line[0], own) for line in grid[1]])


def flows_behind(grid, inject, names):
    """Return the flows behind falls of lines that part no island, 0 on them."""
    left = without_lines(grid, names)
    return filled(grid, left, line_flows(left, inject), ZERO)


def factors(grid, name):
    """Return the parts of a line's flow that the lines take over when it falls, -1 for itself."""
    check_grid(grid)
    line = grid[1][line_place(grid, name)]
    check_falls(grid, (name,))
    left = without_lines(grid, (name,))
    # What the line bore has to go from its one end to the other one over the lines that are left.
    return filled(grid, left, line_flows(left, transfer(left, line[1], line[2])), (-1, 1))


def behind_fall(grid, inject, name):
    """Return the flows behind the fall of a line that is no bridge, 0 on it."""
    check_grid(grid)
    check_injections(grid, inject)
    line_place(grid, name)
    check_falls(grid, (name,))
    return flows_behind(grid, inject, (name,))


def behind_falls(grid, inject, names):
    """Return the flows behind the falls of some lines, one behind another, 0 on them."""
    check_grid(grid)
    check_injections(grid, inject)
    check_lines(grid, names)
    check_falls(grid, names)
    return flows_behind(grid, inject, names)
