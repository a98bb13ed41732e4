"""The control room: lines fall and come back, needs change, and behind each event there is a best plan."""

from wattkeep.anyneeds import grid_needing
from wattkeep.cascades import rounds_of, shared_plan
from wattkeep.errors import BadName, BadNumber, NothingDone
from wattkeep.grids import MOST_AMOUNT, check_grid, line_place, load_place, without_lines
from wattkeep.plans import plan_cost, plan_loss
from wattkeep.ratios import ONE, is_between
from wattkeep.ready import ready_plan
from wattkeep.shedding import best_plan


def down_after(events):
    """Return the names of the lines that are down behind events, as they fell."""
    down = []
    for event in events:
        if event[0] == "fall":
            down.append(event[1])
        if event[0] == "back":
            down.remove(event[1])
    return tuple(down)


def needing_after(grid, events):
    """Return the grid with what its loads need behind events."""
    needs = {event[1]: event[2] for event in events if event[0] == "need"}
    return grid_needing(grid, [needs.get(load[0], load[2]) for load in grid[3]])


class Room:
    """A grid, the events that stand, and what is told of the grid behind them."""

    def __init__(self, grid):
        check_grid(grid)
        self._first = grid
        self._keep([])

    def _keep(self, events):
        """Let these events be those that stand, and tell anew what hangs on them."""
        self._log = events
        self._down = down_after(events)
        self._grid = without_lines(needing_after(self._first, events), self._down)
        self._papers = best_plan(self._grid)
        self._lost = plan_loss(self._grid, self._papers[0])
        self._cost = plan_cost(self._grid, self._papers[0])

    def _add(self, event):
        """Let one more event stand."""
        self._keep(self._log + [event])

    def fall(self, name):
        """Let a line fall that stands."""
        line_place(self._grid, name)
        self._add(("fall", name))

    def back(self, name):
        """Let a line come back that has fallen."""
        if name not in self._down:
            raise BadName("no name of a line that has fallen")
        self._add(("back", name))

    def need(self, name, amount):
        """Let a load need another amount."""
        load_place(self._grid, name)
        if not is_between(amount, 0, MOST_AMOUNT):
            raise BadNumber("no integer from 0 to 999")
        self._add(("need", name, amount))

    def undo(self):
        """Take the last event that stands back."""
        if not self._log:
            raise NothingDone("no event stands")
        self._keep(self._log[:-1])

    def ready(self):
        """Return a plan by which nothing trips behind the fall of any line that is no bridge, nobody acting."""
        return ready_plan(self._grid, ONE)[0]

    def trips(self):
        """Return the cascade of the plan."""
        return rounds_of(self._grid, self._papers[0])

    def if_falls(self, name):
        """Return the cascade when a line that stands falls and nobody acts."""
        line_place(self._grid, name)
        left = without_lines(self._grid, (name,))
        return rounds_of(left, shared_plan(left, self._papers[0]))

    @property
    def grid(self):
        """The grid without the lines that have fallen."""
        return self._grid

    @property
    def down(self):
        """The names of the lines that have fallen, as they fell."""
        return self._down

    @property
    def plan(self):
        """A plan that loses the least and costs the least of those."""
        return self._papers[0]

    @property
    def papers(self):
        """The whole of what best_plan tells of the grid."""
        return self._papers

    @property
    def lost(self):
        """What the plan loses."""
        return self._lost

    @property
    def cost(self):
        """What the plan costs."""
        return self._cost

    @property
    def log(self):
        """The list of the events that stand."""
        return list(self._log)
