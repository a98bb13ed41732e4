import unittest
from fractions import Fraction
from random import Random

from tests.support import (
    CHAIN, LOOP, PARALLEL, RING, SINGLE, WRONG, fraction, fractions, ratios, some_full_grid, some_joined_grid, written,
)
from wattkeep.desk import Desk
from wattkeep.dispatch import flows_of
from wattkeep.errors import BadLine
from wattkeep.gridtexts import write_grid
from wattkeep.room import Room

# Three lines side by side, of which each bears 3 of 9.
ROW = (
    ("a", "b"), (("x", "a", "b", 5, 4), ("y", "a", "b", 5, 5), ("z", "a", "b", 5, 9)), (("p", "a", 9, 1),), (("n", "b", 9, 5),),
)
# Lines of words of each form, with words that may stand for nothing.
FORMS = (
    "fall x", "fall zz", "fall 7", "back x", "back ?", "need n 5", "need zz 5", "need n x", "need n 1000", "undo", "plan",
    "flows", "prices", "lost", "cost", "down", "grid", "if x", "if fall", "log",
)
# Lines of other words, of too few and of too many.
OTHERS = (
    "", " ", "    ", "what", "Fall x", "FALL x", "falls x", "fal x", "x", "7", "read", "read node", "if", "if x y", "fall", "back",
    "need", "need n", "need n 5 6", "fall x y", "back x y", "undo 1", "undo x", "plan n", "flows x", "prices a", "lost n", "cost p",
    "down x", "grid a", "log 1", "no grid", "what what", "fall\tx", "plan\n", "undo\t", "\nplan", "ready", "trips", "papers", "-",
    "plan,", "plan | -", "need n,5", "fall;x",
)


def desk_of(grid):
    desk = Desk()
    desk.read(write_grid(grid))
    return desk


def pairs(names, parts):
    """Return pairs of names and Fractions, a dash for none."""
    return ", ".join(name + " " + written(part) for name, part in zip(names, parts)) or "-"


def names_of(items):
    return [item[0] for item in items]


def prices_told(grid):
    return pairs(grid[0], fractions(Room(grid).papers[1][0]))


def right_answers(room):
    """Return for each line that asks for something what the desk must answer, told of a room of the same events."""
    grid, made, shed = room.grid, fractions(room.plan[0]), fractions(room.plan[1])
    less = [(load[0], part) for load, part in zip(grid[3], shed) if part != 0]
    answers = {
        "plan": pairs(names_of(grid[2]), made) + " | " + pairs(names_of(less), [part for _, part in less]),
        "flows": pairs(names_of(grid[1]), fractions(flows_of(grid, room.plan))),
        "prices": pairs(grid[0], fractions(room.papers[1][0])),
        "lost": written(fraction(room.lost)), "cost": written(fraction(room.cost)),
        "down": " ".join(room.down) or "-", "grid": write_grid(grid),
        "log": "; ".join(" ".join(str(word) for word in event) for event in room.log) or "-",
    }
    for line in grid[1]:
        rounds = "; ".join(" ".join(names) for names, _ in room.if_falls(line[0]))
        answers["if " + line[0]] = rounds or "holds"
    return answers


class ByHand(unittest.TestCase):
    def hold(self, desk, *pairs_of_lines):
        for line, answer in pairs_of_lines:
            self.assertEqual(desk.say(line), answer, line)

    def test_the_ring(self):
        # By z come 2, as much as it bears; what more comes from p goes by x and on by y, whose way is against it.
        desk = desk_of(RING)
        self.hold(
            desk, ("plan", "p 10/3, q 8/3 | -"), ("flows", "x 4/3, y -1/3, z 2"), ("prices", "a 1, b 8/3, c 6"), ("lost", "0"),
            ("cost", "58/3"), ("down", "-"), ("log", "-"), ("if x", "z"), ("if y", "z"), ("if z", "holds"),
        )
        # q makes all that it can. If m is shed, less goes by x, and what p makes less is less than m needs.
        self.hold(
            desk, ("need n 12", "lost 77/3 cost 170/3"), ("plan", "p 8/3, q 9 | n 1/3, m 1"), ("lost", "77/3"), ("cost", "170/3"),
            ("flows", "x 2/3, y -2/3, z 2"), ("log", "need n 12"), ("down", "-"), ("undo", "lost 0 cost 58/3"), ("log", "-"),
        )

    def test_falls(self):
        desk = desk_of(PARALLEL)
        left = write_grid(PARALLEL).replace("line x a b 1 3\n", "").replace("n b 5", "n b 17")
        self.hold(
            desk, ("plan", "p 5, q 0 | -"), ("if x", "y"), ("if y", "x"), ("fall y", "lost 0 cost 11"), ("down", "y"),
            ("flows", "x 3"), ("prices", "a 1, b 4"), ("if x", "holds"), ("fall x", "lost 0 cost 20"), ("down", "y x"),
            ("flows", "-"), ("plan", "p 0, q 5 | -"), ("log", "fall y; fall x"), ("back y", "lost 0 cost 11"), ("down", "x"),
            ("flows", "y 3"), ("need n 17", "lost 250 cost 39"), ("plan", "p 3, q 9 | n 5"),
            ("log", "fall y; fall x; back y; need n 17"), ("grid", left),
            ("undo", "lost 0 cost 11"), ("undo", "lost 0 cost 20"), ("undo", "lost 0 cost 11"), ("undo", "lost 0 cost 5"),
            ("undo", "nothing done"), ("log", "-"), ("grid", write_grid(PARALLEL)),
        )

    def test_rounds(self):
        self.hold(desk_of(ROW), ("flows", "x 3, y 3, z 3"), ("if x", "holds"), ("if y", "x"), ("if z", "x; y"))
        both = ROW[:1] + ((ROW[1][0], ROW[1][1][:4] + (4,), ROW[1][2]),) + ROW[2:]
        self.hold(desk_of(both), ("if z", "x y"), ("if x", "y"), ("fall y", "lost 5 cost 8"), ("if z", "x"))

    def test_void_lists(self):
        self.hold(
            desk_of(SINGLE), ("plan", "- | -"), ("flows", "-"), ("prices", prices_told(SINGLE)), ("lost", "0"), ("cost", "0"),
            ("down", "-"), ("grid", "node a"), ("log", "-"), ("undo", "nothing done"),
        )
        loads = (("a", "b"), (("x", "a", "b", 1, 3),), (), (("n", "a", 0, 5), ("m", "b", 4, 7)))
        self.hold(
            desk_of(loads), ("plan", "- | m 4"), ("flows", "x 0"), ("lost", "28"), ("need m 0", "lost 0 cost 0"), ("plan", "- | -"),
        )
        plants = (("a",), (), (("p", "a", 9, 3),), ())
        self.hold(desk_of(plants), ("plan", "p 0 | -"), ("flows", "-"))

    def test_ratios(self):
        lines = (("x", "a", "b", 2, 9), ("y", "a", "b", 1, 2), ("z", "b", "c", 1, 9))
        thirds = (CHAIN[0], lines, (("p", "a", 9, 2),), (("n", "c", 5, 1),))
        self.hold(
            desk_of(thirds), ("plan", "p 3 | n 2"), ("flows", "x 1, y 2, z 3"), ("lost", "2"), ("fall y", "lost 0 cost 10"),
            ("back y", "lost 2 cost 6"), ("fall z", "lost 5 cost 0"), ("flows", "x 0, y 0"),
        )
        others = thirds[:1] + ((("x", "a", "b", 3, 9), ("y", "b", "a", 2, 9), ("z", "b", "c", 1, 9)),) + thirds[2:]
        self.hold(desk_of(others), ("flows", "x 2, y -3, z 5"), ("need n 4", "lost 0 cost 8"), ("flows", "x 8/5, y -12/5, z 4"))

    def test_more_spaces(self):
        desk = desk_of(PARALLEL)
        self.hold(
            desk, ("  fall   y ", "lost 0 cost 11"), ("   plan", "p 3, q 2 | -"), ("need     n   12   ", "lost 0 cost 39"),
            (" if  x", "holds"), ("down  ", "y"), (" log ", "fall y; need n 12"), ("  undo  ", "lost 0 cost 11"),
        )

    def test_errors(self):
        desk = desk_of(PARALLEL)
        self.hold(
            desk, ("fall y", "lost 0 cost 11"),
            *[(word + " " + name, "no such name") for word in ("fall", "if") for name in ("y", "z", "a", "p", "n", "X", "7", "?", "fall")],
            *[("back " + name, "no such name") for name in ("x", "z", "a", "p", "n", "Y", "7", "?", "back")],
            *[("need " + name + " 3", "no such name") for name in ("x", "y", "a", "p", "N", "5", "?")],
            *[("need " + name + " ?", "no such name") for name in ("x", "zz", "5")],
            *[("need n " + amount, "no such number") for amount in (
                "1000", "-1", "+1", "x", "?", "1/2", "1.0", "05", "00", "-0", "1e2", "\u0663", "9" * 5000, "n", "5;",
            )],
            ("log", "fall y"), ("need n 0", "lost 0 cost 0"), ("need n 999", "lost 49350 cost 39"), ("undo", "lost 0 cost 0"),
            ("undo", "lost 0 cost 11"), ("undo", "lost 0 cost 5"), ("undo", "nothing done"), ("undo", "nothing done"),
            ("down", "-"), ("back y", "no such name"),
        )


class Say(unittest.TestCase):
    def test_ahead_of_a_grid(self):
        desk = Desk()
        for line in FORMS:
            self.assertEqual(desk.say(line), "no grid")
            self.assertEqual(desk.say("  " + line.replace(" ", "   ") + " "), "no grid")
        for line in OTHERS + WRONG:
            self.assertEqual(desk.say(line), "what", line)
        self.assertEqual(desk.say("log"), "no grid")

    def test_other_values(self):
        desk = desk_of(PARALLEL)
        desk.say("fall x")
        for line in OTHERS + WRONG + (("fall", "y"), ["undo"], b"undo", {"undo": 1}, 5):
            self.assertEqual(desk.say(line), "what", line)
        self.assertEqual([desk.say("log"), desk.say("down")], ["fall x", "x"])

    def test_days(self):
        random = Random(231)
        words = []
        for _ in range(100):
            grid = random.choice([RING, LOOP, PARALLEL, some_joined_grid(random), some_full_grid(random)])
            desk, room = desk_of(grid), Room(grid)
            for _ in range(8):
                words.append(self.try_event(random, desk, room, grid))
                for line, answer in right_answers(room).items():
                    self.assertEqual(desk.say(line), answer, (grid, room.log, line))
        for word in ("fall", "back", "need", "undo", "no such name", "no such number", "nothing done"):
            self.assertGreater(words.count(word), 5, word)

    def try_event(self, random, desk, room, grid):
        """Say an event, one that can be or not, and let it be in the room too; return its word or the error."""
        word = random.choice(["fall", "fall", "back", "need", "need", "undo"])
        name = random.choice([line[0] for line in grid[1]] + [load[0] for load in grid[3]] + list(room.down) * 2 + ["zz"])
        amount = random.choice([0, 3, 9, 30, 999, 1000])
        standing, needing = [line[0] for line in room.grid[1]], [load[0] for load in grid[3]]
        if word == "undo":
            error = None if room.log else "nothing done"
            said, call = "undo", room.undo
        elif word == "need":
            error = "no such name" if name not in needing else "no such number" if amount > 999 else None
            said, call = f"need {name} {amount}", lambda: room.need(name, amount)
        else:
            error = None if name in (standing if word == "fall" else room.down) else "no such name"
            said, call = f"{word} {name}", lambda: getattr(room, word)(name)
        answer = desk.say(said)
        if error is None:
            call()
        right = f"lost {written(fraction(room.lost))} cost {written(fraction(room.cost))}" if error is None else error
        self.assertEqual(answer, right, said)
        return error or word


class Read(unittest.TestCase):
    def fails(self, desk, text, line, word):
        with self.assertRaises(BadLine, msg=text) as raised:
            desk.read(text)
        self.assertEqual((raised.exception.line, raised.exception.word), (line, word))

    def test_texts_that_are_none(self):
        desk = Desk()
        wrong = [("knot a", 1, 1), ("", 2, 1), ("node a\n\nnode A", 3, 2), ("node a\nload n a 5", 2, 5), ("node a\nnode a", 2, 2)]
        wrong += [(value, 1, 1) for value in WRONG if not isinstance(value, str)]
        for text, line, word in wrong:
            self.fails(desk, text, line, word)
            self.assertEqual(desk.say("plan"), "no grid")
        # A desk that has a grid keeps it, and what was said of it.
        desk.read(write_grid(PARALLEL))
        desk.say("fall x")
        desk.say("need n 12")
        for text, line, word in wrong:
            self.fails(desk, text, line, word)
            self.assertEqual([desk.say("log"), desk.say("plan")], ["fall x; need n 12", "p 3, q 9 | -"])
        self.assertEqual(desk.say("undo"), "lost 0 cost 11")

    def test_another_grid(self):
        desk = Desk()
        self.assertIs(desk.read(write_grid(PARALLEL)), None)
        desk.say("fall x")
        desk.read(write_grid(RING))
        self.assertEqual([desk.say("log"), desk.say("plan"), desk.say("undo")], ["-", "p 10/3, q 8/3 | -", "nothing done"])

    def test_the_text_of_a_desk_is_read_by_another_one(self):
        desk, other = desk_of(LOOP), Desk()
        desk.say("fall x")
        desk.say("need m 9")
        other.read(desk.say("grid"))
        for line in ("plan", "flows", "prices", "lost", "cost", "grid", "if w"):
            self.assertEqual(other.say(line), desk.say(line))
        self.assertEqual([other.say("log"), other.say("down")], ["-", "-"])
        self.assertEqual(other.say("fall x"), "no such name")

    def test_two_desks(self):
        one, other = desk_of(PARALLEL), desk_of(PARALLEL)
        one.say("fall x")
        self.assertEqual([other.say("down"), other.say("undo"), one.say("down")], ["-", "nothing done", "x"])


if __name__ == "__main__":
    unittest.main()
