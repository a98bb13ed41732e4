"""Drills: what is lost behind the fall of each line, and of each two, if nobody acts."""

from wattkeep.cascades import rounds_of, shared_plan
from wattkeep.errors import BadNumber
from wattkeep.grids import check_grid, load_place, without_lines
from wattkeep.lots import least_place, lots_of_lines
from wattkeep.plans import check_plan, plan_loss
from wattkeep.ratios import is_between, negative
from wattkeep.shedding import least_shed

MOST_FALLEN = 2


def check_fallen(most):
    """Raise BadNumber unless a value is 1 or 2."""
    if not is_between(most, 1, MOST_FALLEN):
        raise BadNumber("not 1 or 2")


def drill_of(grid, plan, names):
    """Return (drill, what the loads shed behind it) of the fall of some lines."""
    left = without_lines(grid, names)
    behind = shared_plan(left, plan)
    rounds = rounds_of(left, behind)
    if rounds:
        behind = rounds[-1][1]
    least = least_shed(left)[0]
    return ((names, len(rounds), plan_loss(left, behind), plan_loss(left, least)), behind[1])


def all_drills(grid, plan, most):
    """Return (drill, what the loads shed behind it) of each lot of at most so many lines, but for that of none."""
    return [drill_of(grid, plan, names) for names in lots_of_lines(grid, most)[1:]]


def drills(grid, plan, most):
    """Return (names, rounds, worth lost behind them, least that must be lost) of each lot of at most so many lines."""
    check_grid(grid)
    check_plan(grid, plan)
    check_fallen(most)
    return tuple([drill for drill, _ in all_drills(grid, plan, most)])


def weakest(grid, plan, most):
    """Return the first drill with the greatest worth, None without lines."""
    known = drills(grid, plan, most)
    place = least_place([negative(drill[2]) for drill in known])
    return None if place is None else known[place]


def falls_with(grid, plan, name, most):
    """Return the drills behind which a load sheds another amount than in the plan."""
    check_grid(grid)
    check_plan(grid, plan)
    place = load_place(grid, name)
    check_fallen(most)
    return tuple([drill for drill, shed in all_drills(grid, plan, most) if shed[place] != plan[1][place]])
