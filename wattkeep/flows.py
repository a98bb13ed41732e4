"""Flows: what the lines bear and the angles of the nodes when power is injected and taken out."""

from wattkeep.errors import BadInjections
from wattkeep.grids import check_grid, first_places, island_places, line_ends, line_place, node_place
from wattkeep.ratios import ONE, ZERO, are_ratios, by, dot, minus, plus, times, total
from wattkeep.systems import inverted


def are_injections(grid, value):
    """Tell whether a value is a tuple of a ratio for each node that sum to 0 in each island."""
    if not are_ratios(value, len(grid[0])):
        return False
    return all([total([value[at] for at in places]) == ZERO for places in island_places(grid)])


def check_injections(grid, inject):
    """Raise BadInjections for a value that is no injections of a grid."""
    if not are_injections(grid, inject):
        raise BadInjections("no injections")


def grounded(grid):
    """Return the table that takes angles to injections, with a unit row for the first node of each island."""
    count = len(grid[0])
    table = [[ZERO] * count for _ in range(count)]
    for line, (one, other) in zip(grid[1], line_ends(grid)):
        part = (1, line[3])
        table[one][one] = plus(table[one][one], part)
        table[other][other] = plus(table[other][other], part)
        table[one][other] = minus(table[one][other], part)
        table[other][one] = minus(table[other][one], part)
    # The angle of a first node is known to be 0, so its row and column may go; a 1 there keeps the table square.
    for first in island_places(grid):
        at = first[0]
        for place in range(count):
            table[at][place] = table[place][at] = ZERO
        table[at][at] = ONE
    return table


def angle_table(grid):
    """Return for each node the row of its angles when a unit is injected at each node.

    It is taken out at the first node of the island, whose own row and column are 0.
    """
    firsts = first_places(grid)
    table = [list(row) for row in inverted(grounded(grid))]
    for first in firsts:
        table[first][first] = ZERO
    return table


def share_table(grid):
    """Return for each line the tuple of its flows when a unit is injected at each node.

    It is taken out at the first node of the island.
    """
    table = angle_table(grid)
    shared = []
    for line, (one, other) in zip(grid[1], line_ends(grid)):
        own = (line[3], 1)
        shared.append(tuple([by(minus(high, low), own) for high, low in zip(table[one], table[other])]))
    return tuple(shared)


def node_angles(grid, inject):
    """Return the angles of injections that are known to be some."""
    return tuple([dot(row, inject) for row in angle_table(grid)])


def line_flows(grid, inject):
    """Return the flows of injections that are known to be some."""
    found = node_angles(grid, inject)
    ends = line_ends(grid)
    return tuple([by(minus(found[one], found[other]), (line[3], 1)) for line, (one, other) in zip(grid[1], ends)])


def transfer(grid, one, other):
    """Return the injections of a unit that goes in at a node and out at another one (BadName, BadInjections)."""
    start = node_place(grid, one)
    goal = node_place(grid, other)
    firsts = first_places(grid)
    if firsts[start] != firsts[goal]:
        raise BadInjections("nodes of two islands")
    inject = [ZERO] * len(grid[0])
    inject[start] = ONE
    inject[goal] = minus(inject[goal], ONE)
    return tuple(inject)


def flows(grid, inject):
    """Return the flows of all lines, from one to other."""
    check_grid(grid)
    check_injections(grid, inject)
    return line_flows(grid, inject)


def angles(grid, inject):
    """Return the angles of all nodes, the first node of each island having 0."""
    check_grid(grid)
    check_injections(grid, inject)
    return node_angles(grid, inject)


def losses(grid, inject):
    """Return the sum over all lines of reactance times the square of the flow."""
    check_grid(grid)
    check_injections(grid, inject)
    found = line_flows(grid, inject)
    return total([times((line[3], 1), times(flow, flow)) for line, flow in zip(grid[1], found)])


def sent(grid, one, other):
    """Return the flows when a unit is injected at a node and taken out at another one."""
    check_grid(grid)
    return line_flows(grid, transfer(grid, one, other))


def reactance(grid, one, other):
    """Return the angle of one less that of other when a unit is sent from one to other."""
    check_grid(grid)
    inject = transfer(grid, one, other)
    return dot(node_angles(grid, inject), inject)


def shares(grid, name):
    """Return, for each node, the flow on a line when a unit is injected there and taken out at the first node."""
    check_grid(grid)
    place = line_place(grid, name)
    return share_table(grid)[place]
