"""The desk: a control room that is told lines of words and answers in words."""

from wattkeep.errors import BadName, BadNumber, NothingDone
from wattkeep.gridtexts import read_grid, write_grid
from wattkeep.plans import plan_flows
from wattkeep.room import Room
from wattkeep.words import number_of, ratio_word, words_of


def loss_text(room):
    """Return what the plan of a room loses and costs."""
    return f"lost {ratio_word(room.lost)} cost {ratio_word(room.cost)}"


def pairs_text(names, parts):
    """Return pairs of names and ratios with a comma and a space between, a dash for none."""
    return ", ".join([f"{name} {ratio_word(part)}" for name, part in zip(names, parts)]) or "-"


def names_of(items):
    """Return the names of lines, plants or loads."""
    return [item[0] for item in items]


def say_fall(room, words):
    """Let a line fall."""
    room.fall(words[0])
    return loss_text(room)


def say_back(room, words):
    """Let a line come back."""
    room.back(words[0])
    return loss_text(room)


def say_need(room, words):
    """Let a load need another amount."""
    room.need(words[0], number_of(words[1]))
    return loss_text(room)


def say_undo(room, _):
    """Take the last event back."""
    room.undo()
    return loss_text(room)


def say_plan(room, _):
    """Return what the plants make, and what the loads shed that shed anything."""
    made, shed = room.plan
    lacking = [(load[0], part) for load, part in zip(room.grid[3], shed) if part[0] > 0]
    less = pairs_text(names_of(lacking), [part for _, part in lacking])
    return f"{pairs_text(names_of(room.grid[2]), made)} | {less}"


def say_flows(room, _):
    """Return the flows of the lines that stand."""
    return pairs_text(names_of(room.grid[1]), plan_flows(room.grid, room.plan))


def say_prices(room, _):
    """Return the prices of the nodes."""
    return pairs_text(room.grid[0], room.papers[1][0])


def say_lost(room, _):
    """Return what the plan loses."""
    return ratio_word(room.lost)


def say_cost(room, _):
    """Return what the plan costs."""
    return ratio_word(room.cost)


def say_down(room, _):
    """Return the names of the lines that have fallen."""
    return " ".join(room.down) or "-"


def say_grid(room, _):
    """Return the text of the grid without the lines that have fallen."""
    return write_grid(room.grid)


def say_if(room, words):
    """Return which lines trip, round by round, when a line falls and nobody acts."""
    return "; ".join([" ".join(names) for names, _ in room.if_falls(words[0])]) or "holds"


def say_log(room, _):
    """Return the words of the events that stand."""
    return "; ".join([" ".join([str(part) for part in event]) for event in room.log]) or "-"


# For each first word how many words follow it, and what answers them.
FORMS = {
    "fall": (1, say_fall),
    "back": (1, say_back),
    "need": (2, say_need),
    "undo": (0, say_undo),
    "plan": (0, say_plan),
    "flows": (0, say_flows),
    "prices": (0, say_prices),
    "lost": (0, say_lost),
    "cost": (0, say_cost),
    "down": (0, say_down),
    "grid": (0, say_grid),
    "if": (1, say_if),
    "log": (0, say_log),
}


def answered(room, answer, words):
    """Return what answers words, or the words for an error."""
    try:
        return answer(room, words)
    except BadName:
        return "no such name"
    except BadNumber:
        return "no such number"
    except NothingDone:
        return "nothing done"


class Desk:
    """A desk at which a room is spoken to, once it has read a grid."""

    def __init__(self):
        self._room = None

    def read(self, text):
        """Take the grid of a text (BadLine)."""
        self._room = Room(read_grid(text))

    def say(self, line):
        """Return the answer to a line of words parted by spaces."""
        words = words_of(line) if isinstance(line, str) else []
        if not words or words[0] not in FORMS:
            return "what"
        count, answer = FORMS[words[0]]
        if len(words) != count + 1:
            return "what"
        if self._room is None:
            return "no grid"
        return answered(self._room, answer, words[1:])
