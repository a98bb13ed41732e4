"""Sheets: a cheapest plan and its paper as rows of words and numbers that anyone can add up.

A row is (word, name, pairs), its pairs (name, ratio).
"""

from wattkeep.errors import BadLine, BadPlan
from wattkeep.falls import NO_FALLS
from wattkeep.grids import check_grid
from wattkeep.papers import is_cheapest, pulls_of
from wattkeep.plans import plan_flows
from wattkeep.ratios import ZERO, minus, negative
from wattkeep.words import ratio_of, ratio_word, words_of


def shows_plan(grid, plan, paper):
    """Tell whether a plan and a paper are as those of a cheapest plan."""
    return is_cheapest(grid, NO_FALLS, ("plan", plan, (paper,)))


def ends_at(grid, node, parts):
    """Return the pairs of the lines at a node: the part of one that begins there, the negative of one that ends."""
    pairs = []
    for line, part in zip(grid[1], parts):
        if node == line[1]:
            pairs.append((line[0], part))
        if node == line[2]:
            pairs.append((line[0], negative(part)))
    return pairs


def balance_row(grid, plan, node):
    """Return the row of what is made at a node, what is not shed of the needs there, and what comes in by lines."""
    made = [(plant[0], part) for plant, part in zip(grid[2], plan[0]) if plant[1] == node]
    shed = [(load[0], minus(part, (load[2], 1))) for load, part in zip(grid[3], plan[1]) if load[1] == node]
    incoming = ends_at(grid, node, [negative(flow) for flow in plan_flows(grid, plan)])
    return ("balance", node, made + shed + incoming)


def rows_of(grid, plan, paper):
    """Return the rows of the sheet of a plan and its paper."""
    prices, rents = paper
    pulls = pulls_of(grid, paper)
    rows = [("made", plant[0], [("is", part)]) for plant, part in zip(grid[2], plan[0])]
    for line, flow, rent in zip(grid[1], plan_flows(grid, plan), rents):
        rows.append(("line", line[0], [("flow", flow), ("rent", rent)]))
    rows = rows + [("price", node, [("is", price)]) for node, price in zip(grid[0], prices)]
    rows = rows + [balance_row(grid, plan, node) for node in grid[0]]
    return rows + [("pulls", node, ends_at(grid, node, pulls)) for node in grid[0]]


def row_text(row):
    """Return the words of a row, parted by one space."""
    word, name, pairs = row
    return " ".join([word, name] + [f"{key} {ratio_word(part)}" for key, part in pairs])


def texts_of(grid, plan, paper):
    """Return the texts of the rows of a sheet."""
    return [row_text(row) for row in rows_of(grid, plan, paper)]


def sheet_of(grid, plan, paper):
    """Return the sheet of a cheapest plan and its paper."""
    check_grid(grid)
    if not shows_plan(grid, plan, paper):
        raise BadPlan("no cheapest plan with its paper")
    return "\n".join(texts_of(grid, plan, paper))


def read_row(line, known, row):
    """Return (word, name, numbers) of a line, behind rows that are known by their words and names (BadLine)."""
    words = words_of(line)
    if len(words) < 2 or len(words) % 2 == 1:
        raise BadLine(row, len(words) + 1)
    parts = [ratio_of(word) for word in words[3::2]]
    if None in parts:
        raise BadLine(row, 4 + 2 * parts.index(None))
    if (words[0], words[1]) in known:
        raise BadLine(row, 2)
    return (words[0], words[1], parts)


def read_rows(text):
    """Return the numbers of each row of a sheet by its word and name (BadLine)."""
    if not isinstance(text, str):
        raise BadLine(1, 1)
    known = {}
    for at, line in enumerate(text.split("\n")):
        word, name, parts = read_row(line, known, at + 1)
        known[(word, name)] = parts
    return known


def parts_told(known, word, names, place):
    """Return the numbers at a place of the rows of some names, None where there is none."""
    rows = [known.get((word, name), []) for name in names]
    return tuple([row[place] if len(row) > place else None for row in rows])


def judge_sheet(grid, text):
    """Tell whether a text has all rows of the sheet of a cheapest plan, in any order, and nothing else."""
    check_grid(grid)
    known = read_rows(text)
    plan = (parts_told(known, "made", [plant[0] for plant in grid[2]], 0), tuple([ZERO for _ in grid[3]]))
    rents = parts_told(known, "line", [line[0] for line in grid[1]], 1)
    paper = (parts_told(known, "price", grid[0], 0), rents)
    if not shows_plan(grid, plan, paper):
        return False
    # The plan balances each node and the pulls of its paper do, so that the rows that tell of them add up.
    return sorted(text.split("\n")) == sorted(texts_of(grid, plan, paper))
