"""Grids: what one is, its islands, bridges and rings, and what is left when lines fall."""

from wattkeep.errors import BadGrid, BadName
from wattkeep.ratios import is_between

LETTERS = "abcdefghijklmnopqrstuvwxyz"
SIGNS = "abcdefghijklmnopqrstuvwxyz0123456789"
LONGEST_NAME = 8
MOST_NODES = 8
MOST_LINES = 14
MOST_PLANTS = 8
MOST_LOADS = 8
MOST_REACTANCE = 99
MOST_AMOUNT = 999
MOST_WORTH = 9999


def is_name(value):
    """Tell whether a value is a name."""
    if not isinstance(value, str) or not 1 <= len(value) <= LONGEST_NAME:
        return False
    return value[0] in LETTERS and all([sign in SIGNS for sign in value])


def is_line(value, nodes):
    """Tell whether a value is a line between two of these nodes."""
    if not isinstance(value, tuple) or len(value) != 5:
        return False
    name, one, other, own, limit = value
    if one not in nodes or other not in nodes or one == other:
        return False
    return is_name(name) and is_between(own, 1, MOST_REACTANCE) and is_between(limit, 0, MOST_AMOUNT)


def is_user(value, nodes, most):
    """Tell whether a value is a plant or a load at one of these nodes, its price or worth at most so much."""
    if not isinstance(value, tuple) or len(value) != 4:
        return False
    name, node, amount, money = value
    return is_name(name) and node in nodes and is_between(amount, 0, MOST_AMOUNT) and is_between(money, 0, most)


def is_grid(value):
    """Tell whether a value is a grid."""
    if not isinstance(value, tuple) or len(value) != 4:
        return False
    if not all([isinstance(part, tuple) for part in value]):
        return False
    nodes, lines, plants, loads = value
    if not 1 <= len(nodes) <= MOST_NODES or len(lines) > MOST_LINES:
        return False
    if len(plants) > MOST_PLANTS or len(loads) > MOST_LOADS:
        return False
    if not all([is_name(node) for node in nodes]) or not all([is_line(line, nodes) for line in lines]):
        return False
    if not all([is_user(plant, nodes, MOST_AMOUNT) for plant in plants]):
        return False
    if not all([is_user(load, nodes, MOST_WORTH) for load in loads]):
        return False
    names = list(nodes) + [item[0] for item in lines + plants + loads]
    return len(set(names)) == len(names)


def check_grid(grid):
    """Raise BadGrid for a value that is no grid."""
    if not is_grid(grid):
        raise BadGrid("no grid")


def line_place(grid, name):
    """Return the place of a line by its name (BadName)."""
    names = [line[0] for line in grid[1]]
    if name not in names:
        raise BadName("no name of a line")
    return names.index(name)


def node_place(grid, name):
    """Return the place of a node by its name (BadName)."""
    if name not in grid[0]:
        raise BadName("no name of a node")
    return grid[0].index(name)


def load_place(grid, name):
    """Return the place of a load by its name (BadName)."""
    names = [load[0] for load in grid[3]]
    if name not in names:
        raise BadName("no name of a load")
    return names.index(name)


def check_lines(grid, names):
    """Raise BadName unless names is a tuple of names of lines."""
    known = [line[0] for line in grid[1]]
    if not isinstance(names, tuple) or not all([name in known for name in names]):
        raise BadName("no names of lines")


def line_ends(grid):
    """Return the places of the two ends of each line."""
    nodes = grid[0]
    return [(nodes.index(line[1]), nodes.index(line[2])) for line in grid[1]]


def joined(firsts, one, other):
    """Return, for each node, the place of its island's first node, once a line joins the nodes at two places."""
    low = min(firsts[one], firsts[other])
    high = max(firsts[one], firsts[other])
    return [low if first == high else first for first in firsts]


def first_places(grid):
    """Return, for each node, the place of its island's first node."""
    firsts = list(range(len(grid[0])))
    for one, other in line_ends(grid):
        firsts = joined(firsts, one, other)
    return firsts


def island_places(grid):
    """Return the islands, each as the list of its nodes' places, ordered by their first nodes."""
    firsts = first_places(grid)
    count = len(firsts)
    return [[at for at in range(count) if firsts[at] == first] for first in range(count) if firsts[first] == first]


def without_lines(grid, names):
    """Return the grid without some lines."""
    return (grid[0], tuple([line for line in grid[1] if line[0] not in names]), grid[2], grid[3])


def is_bridge(grid, name):
    """Tell whether a line's island parts without it."""
    return len(island_places(without_lines(grid, (name,)))) > len(island_places(grid))


def path(lines, start, goal):
    """Return the steps (name, 1 or -1) from a node to another one, over lines that join them without a ring."""
    ways = {start: ()}
    while goal not in ways:
        for line in lines:
            name, one, other = line[:3]
            if one in ways and other not in ways:
                ways[other] = ways[one] + ((name, 1),)
            elif other in ways and one not in ways:
                ways[one] = ways[other] + ((name, -1),)
    return ways[goal]


def islands(grid):
    """Return the islands of a grid, each the tuple of its nodes, ordered by their first nodes."""
    check_grid(grid)
    return tuple([tuple([grid[0][at] for at in places]) for places in island_places(grid)])


def bridges(grid):
    """Return the names of the lines without which their islands part."""
    check_grid(grid)
    return tuple([line[0] for line in grid[1] if is_bridge(grid, line[0])])


def fallen(grid, names):
    """Return the grid without some lines, each of which may be named more than once."""
    check_grid(grid)
    check_lines(grid, names)
    return without_lines(grid, names)


def rings(grid):
    """Return a ring for each line that closes one, in the grid's order; that line stands in no other ring."""
    check_grid(grid)
    firsts = list(range(len(grid[0])))
    tree, found = [], []
    for line, (one, other) in zip(grid[1], line_ends(grid)):
        if firsts[one] == firsts[other]:
            found.append(((line[0], 1),) + path(tree, line[2], line[1]))
        else:
            firsts = joined(firsts, one, other)
            tree.append(line)
    return tuple(found)
