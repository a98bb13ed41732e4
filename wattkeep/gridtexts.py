"""The texts of grids: a line for each node, line, plant and load."""

from wattkeep.errors import BadLine
from wattkeep.grids import MOST_AMOUNT, MOST_LINES, MOST_LOADS, MOST_NODES, MOST_PLANTS, MOST_REACTANCE, MOST_WORTH
from wattkeep.grids import check_grid, is_name
from wattkeep.ratios import is_between
from wattkeep.words import number_of, words_of


def write_grid(grid):
    """Return the text of a grid."""
    check_grid(grid)
    rows = [["node", node] for node in grid[0]]
    for word, items in (("line", grid[1]), ("plant", grid[2]), ("load", grid[3])):
        rows = rows + [[word] + [str(part) for part in item] for item in items]
    return "\n".join([" ".join(row) for row in rows])


def form_of(word):
    """Return what a line that begins with a word is like, None for a word with which none can begin.

    It is (how many such lines there may be, how many nodes one names, from where to where the numbers behind go).
    """
    forms = {
        "node": (MOST_NODES, 0, ()),
        "line": (MOST_LINES, 2, ((1, MOST_REACTANCE), (0, MOST_AMOUNT))),
        "plant": (MOST_PLANTS, 1, ((0, MOST_AMOUNT), (0, MOST_AMOUNT))),
        "load": (MOST_LOADS, 1, ((0, MOST_AMOUNT), (0, MOST_WORTH))),
    }
    return forms.get(word)


def can_stand(parts, words, at):
    """Tell whether the word at a place of a line can stand there, behind words that can.

    Parts are, for each first word, the items of the lines ahead that begin with it.
    """
    form = form_of(words[0])
    if at == 0:
        return form is not None and len(parts[words[0]]) < form[0]
    if at == 1:
        return is_name(words[1]) and words[1] not in [item[0] for items in parts.values() for item in items]
    _, ends, bounds = form
    if at < 2 + ends:
        return words[at] in [item[0] for item in parts["node"]] and words[at] not in words[2:at]
    if at < 2 + ends + len(bounds):
        least, most = bounds[at - 2 - ends]
        return is_between(number_of(words[at]), least, most)
    return False


def check_words(parts, words, row):
    """Raise BadLine for the first word that cannot stand in a line, or for the one that it lacks."""
    for at in range(len(words)):
        if not can_stand(parts, words, at):
            raise BadLine(row, at + 1)
    _, ends, bounds = form_of(words[0])
    if len(words) < 2 + ends + len(bounds):
        raise BadLine(row, len(words) + 1)


def item_of(words):
    """Return the item that the words of a line tell."""
    first = 2 + form_of(words[0])[1]
    return tuple(words[1:first] + [number_of(word) for word in words[first:]])


def read_grid(text):
    """Return the grid of a text (BadLine)."""
    if not isinstance(text, str):
        raise BadLine(1, 1)
    parts = {"node": [], "line": [], "plant": [], "load": []}
    lines = text.split("\n")
    for at, line in enumerate(lines):
        words = words_of(line)
        if words:
            check_words(parts, words, at + 1)
            parts[words[0]].append(item_of(words))
    if not parts["node"]:
        raise BadLine(len(lines) + 1, 1)
    nodes = [item[0] for item in parts["node"]]
    return (tuple(nodes), tuple(parts["line"]), tuple(parts["plant"]), tuple(parts["load"]))
