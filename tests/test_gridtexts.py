import unittest
from random import Random

from tests.support import CHAIN, LOOP, MIXED, PARALLEL, SINGLE, TRIANGLE, TWINS, WRONG, some_full_grid, some_joined_grid
from wattkeep.errors import BadGrid, BadLine, WattError
from wattkeep.grids import is_grid
from wattkeep.gridtexts import read_grid, write_grid

LOOP_TEXT = """node a
node b
node c
node d
line x a b 1 9
line y b c 2 9
line z a c 1 6
line w c d 3 7
plant p a 20 1
plant q c 20 9
plant r b 4 3
load n c 6 99
load m d 5 40"""
# The greatest grid that there is, and the least and the greatest of each number.
FULLEST = (
    tuple("node" + str(at) for at in range(8)),
    tuple(("line" + str(at), "node0", "node" + str(1 + at // 2), 1 if at == 0 else 99, 999 * (at > 0)) for at in range(14)),
    tuple(("plant" + str(at), "node7", 999 * (at > 0), 999 * (at > 1)) for at in range(8)),
    tuple(("load" + str(at), "node6", 999 * (at > 0), 9999 * (at > 1)) for at in range(8)),
)


class GridTexts(unittest.TestCase):
    def fails(self, text, line, word):
        with self.assertRaises(BadLine, msg=text) as raised:
            read_grid(text)
        self.assertEqual((raised.exception.line, raised.exception.word), (line, word), text)

    def fails_behind(self, ahead, line, word):
        """Hold a line behind others that are right, and with right ones and void ones around."""
        rows = ahead.split("\n")
        self.fails(ahead + "\n" + line, len(rows) + 1, word)
        self.fails("\n\n" + ahead + "\n\n" + "  " + line.replace(" ", "   ") + " \nnonsense", len(rows) + 4, word)

    def test_write(self):
        self.assertEqual(write_grid(LOOP), LOOP_TEXT)
        self.assertEqual(write_grid(SINGLE), "node a")
        self.assertEqual(
            write_grid(PARALLEL),
            "node a\nnode b\nline x a b 1 3\nline y a b 1 3\nplant p a 9 1\nplant q b 9 4\nload n b 5 50",
        )
        for value in WRONG:
            with self.assertRaises(BadGrid, msg=value):
                write_grid(value)

    def test_what_was_written_is_read(self):
        random = Random(201)
        grids = [SINGLE, TRIANGLE, TWINS, CHAIN, MIXED, LOOP, PARALLEL, FULLEST]
        grids += [random.choice([some_full_grid, some_joined_grid])(random) for _ in range(150)]
        for grid in grids:
            self.assertTrue(is_grid(grid))
            text = write_grid(grid)
            self.assertEqual(read_grid(text), grid)
            self.assertEqual(len(text.split("\n")), sum(len(part) for part in grid))
            self.assertFalse("  " in text or " \n" in text or "\n " in text or text != text.strip())

    def test_spaces_and_void_lines(self):
        for text in (
            "\n\n" + LOOP_TEXT, LOOP_TEXT + "\n", LOOP_TEXT + "\n  \n\n   ", LOOP_TEXT.replace(" ", "    "),
            LOOP_TEXT.replace("\n", "\n\n"), LOOP_TEXT.replace("\n", "  \n   \n  "), "   " + LOOP_TEXT + "   ",
        ):
            self.assertEqual(read_grid(text), LOOP)

    def test_lines_in_another_order(self):
        random = Random(202)
        for _ in range(60):
            grid = random.choice([LOOP, MIXED, PARALLEL, some_full_grid(random)])
            rows = write_grid(grid).split("\n")
            count = len(grid[0])
            words = [row.split(" ") for row in rows[count:]]
            random.shuffle(words)
            # Each line somewhere behind the nodes that it names.
            left = list(rows[:count])
            for row in words:
                first = max(left.index("node " + word) for word in row[2:] if "node " + word in left)
                left.insert(random.randint(first + 1, len(left)), " ".join(row))
            told = read_grid("\n".join(left))
            self.assertEqual(told[0], grid[0])
            for place, word in ((1, "line"), (2, "plant"), (3, "load")):
                names = [row.split(" ")[1] for row in left if row.startswith(word + " ")]
                self.assertEqual([item[0] for item in told[place]], names)
                self.assertEqual(sorted(told[place]), sorted(grid[place]))

    def test_names_that_are_words(self):
        text = "node node\nnode line\nline plant line node 1 2\nload load node 3 4\nplant p line 5 6"
        grid = (("node", "line"), (("plant", "line", "node", 1, 2),), (("p", "line", 5, 6),), (("load", "node", 3, 4),))
        self.assertEqual(read_grid(text), grid)

    def test_what_is_no_string(self):
        for value in WRONG + (b"node a", ("node a",), ["node a"], 1):
            if not isinstance(value, str):
                self.fails(value, 1, 1)
        self.assertTrue(issubclass(BadLine, WattError))

    def test_no_node(self):
        for text, line in (("", 2), (" ", 2), ("\n", 3), ("\n\n", 4), ("  \n   ", 3), ("\n" * 20, 22)):
            self.fails(text, line, 1)

    def test_first_words(self):
        for word in ("knot", "nodes", "Node", "NODE", "nod", "0", "-", "\tnode", "node\r", "\n\t", "lines", "a"):
            for line in (word, word + " x", word + " x a b 1 9"):
                if word != "\n\t":
                    self.fails(line, 1, 1)
                    self.fails_behind("node a\nnode b", line, 1)
        self.fails("knot a", 1, 1)

    def test_names(self):
        bad = ("A", "aB", "1a", "a-b", "a_b", "abcdefghi", "a.", "9", "a\t", "\u00e9", "-", "a,b")
        for word, ahead, rest in (("node", "node a", ""), ("line", "node a\nnode b", " a b 1 9"),
                                  ("plant", "node a", " a 9 1"), ("load", "node a", " a 9 1")):
            for name in bad:
                self.fails_behind(ahead, word + " " + name + rest, 2)
            self.assertTrue(read_grid(ahead + "\n" + word + " abcdefgh" + rest))
            # The word is bad whatever follows.
            self.fails_behind(ahead, word + " A B C D E F G", 2)

    def test_names_that_stand_already(self):
        ahead = "node a\nnode b\nline x a b 1 9\nplant p a 9 1\nload n b 5 50"
        for name in ("a", "b", "x", "p", "n"):
            for line in ("node " + name, "line " + name + " a b 1 9", "plant " + name + " a 9 1", "load " + name + " a 9 1"):
                self.fails_behind(ahead, line, 2)

    def test_nodes_that_stand_ahead(self):
        for line, word in (
            ("line x b a 1 9", 3), ("line x a b 1 9", 4), ("line x a a 1 9", 4), ("line x a q 1 9", 4), ("line x A a 1 9", 3),
            ("plant p b 9 1", 3), ("plant p p 9 1", 3), ("load n b 9 1", 3), ("load n 5 5 9", 3), ("line x a x 1 9", 4),
        ):
            self.fails("node a\n" + line + "\nnode b", 2, word)
        # Names of lines, plants and loads are none of nodes.
        ahead = "node a\nnode b\nline x a b 1 9\nplant p a 9 1\nload n b 5 50"
        for name in ("x", "p", "n"):
            for line, word in (("line y a " + name + " 1 9", 4), ("line y " + name + " a 1 9", 3), ("plant q " + name + " 1 1", 3)):
                self.fails_behind(ahead, line, word)

    def test_numbers(self):
        none = ("-1", "+1", "01", "00", "-0", "1.0", "1e2", "x", "0x1", "1/1", "\u0663", "\u00b2", "1_0", "9" * 5000, "10000", "5\t")
        for line, places in (("line x a b 1 9", (5, 6)), ("plant p a 9 1", (4, 5)), ("load n a 9 1", (4, 5))):
            for place in places:
                words = line.split(" ")
                for number in none:
                    words[place - 1] = number
                    self.fails_behind("node a\nnode b", " ".join(words), place)
                    # Of two the first one.
                    self.fails_behind("node a\nnode b", " ".join(words[:place] + ["x", "x"]), place)

    def test_bounds(self):
        for line, word, least, most in (
            ("line x a b N 9", 5, 1, 99), ("line x a b 9 N", 6, 0, 999), ("plant p a N 1", 4, 0, 999),
            ("plant p a 1 N", 5, 0, 999), ("load n a N 1", 4, 0, 999), ("load n a 1 N", 5, 0, 9999),
        ):
            for number in (least, most):
                told = read_grid("node a\nnode b\n" + line.replace("N", str(number)))
                self.assertEqual([item for part in told[1:] for item in part][0][word - 2], number)
            for number in (least - 1, most + 1):
                self.fails_behind("node a\nnode b", line.replace("N", str(number)), word)

    def test_too_few_words(self):
        for line in ("node c", "line x a b 1 9", "plant p a 9 1", "load n a 9 1"):
            words = line.split(" ")
            for count in range(1, len(words)):
                self.fails_behind("node a\nnode b", " ".join(words[:count]), count + 1)
        # A word that cannot stand there comes ahead of one that is lacking.
        self.fails_behind("node a\nnode b", "line x a q", 4)
        self.fails_behind("node a\nnode b", "plant P", 2)

    def test_too_many_words(self):
        for line in ("node c", "line x a b 1 9", "plant p a 9 1", "load n a 9 1"):
            for rest in (" 1", " c", " 1 2 3", " ?"):
                self.fails_behind("node a\nnode b", line + rest, len(line.split(" ")) + 1)

    def test_too_many_lines(self):
        rows = write_grid(FULLEST).split("\n")
        for ahead, line in (
            (rows[:8], "node n"), (rows[:22], "line l node0 node1 1 1"), (rows[:30], "plant p node0 1 1"),
            (rows, "load n node0 1 1"), (rows, "node"), (rows, "line"), (rows, "plant ?"), (rows, "load"),
        ):
            self.fails_behind("\n".join(ahead), line, 1)

    def test_the_first_of_more(self):
        self.fails("node a\nnode A\nknot", 2, 2)
        self.fails("\nknot\nnode A", 2, 1)
        self.fails("load n a 5 50", 1, 3)
        self.fails("load", 1, 2)


if __name__ == "__main__":
    unittest.main()
