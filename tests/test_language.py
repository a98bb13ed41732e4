"""What a walk over the code can see of ../shared/LANGUAGE.md; the rules' numbers stand at the checks."""

import ast
import builtins
import unittest
from pathlib import Path

FOLDER = Path(__file__).resolve().parent.parent / "wattkeep"
LIBRARY = {
    "math": {"gcd", "lcm", "isqrt", "comb", "perm", "factorial"},
    "itertools": {"product", "combinations", "permutations"},
    "heapq": {"heappush", "heappop", "heapify", "heapreplace", "heappushpop"},
}
BUILTINS = set(
    "len range enumerate zip min max sum abs sorted reversed int str bool bytes list tuple dict set isinstance ord repr "
    "any all divmod Exception ValueError TypeError KeyError IndexError LookupError ZeroDivisionError super".split()
)
METHODS = set(
    "append clear copy count endswith extend find get index insert isalnum isalpha isdigit islower isspace isupper items "
    "join keys ljust lower lstrip partition pop remove replace reverse rfind rjust rpartition rsplit rstrip setdefault "
    "split splitlines startswith strip update upper values zfill bit_length".split()
)
NODES = (
    ast.Module, ast.ImportFrom, ast.alias, ast.FunctionDef, ast.ClassDef, ast.arguments, ast.arg, ast.Assign, ast.AugAssign,
    ast.Return, ast.Raise, ast.If, ast.For, ast.While, ast.Break, ast.Continue, ast.Pass, ast.Expr, ast.Call, ast.Name,
    ast.Attribute, ast.Constant, ast.Tuple, ast.List, ast.Dict, ast.ListComp, ast.DictComp, ast.comprehension, ast.Subscript,
    ast.Slice, ast.Starred, ast.BinOp, ast.UnaryOp, ast.BoolOp, ast.Compare, ast.IfExp, ast.JoinedStr, ast.FormattedValue,
    ast.keyword, ast.expr_context, ast.boolop, ast.operator, ast.unaryop, ast.cmpop, ast.Try, ast.ExceptHandler,
)
NOT_NAMES = set(
    "register mro elements open input law version_info exit compile copyright credits license help type vars dir eval exec "
    "globals locals id sys os".split()
)
LISTED = {
    "errors": "WattError BadNumber BadTable BadGrid BadName BadInjections BadProgram BadPlan BadHours BadStores BadMeters "
              "BadStarts BadOffers Bridge NothingDone BadLine",
    "systems": "rank solved inverse",
    "grids": "is_grid islands bridges fallen rings",
    "flows": "flows angles losses sent reactance shares",
    "trees": "trees tree_weight part_in_trees reactance_by_trees sum_over_lines",
    "falls": "factors behind_fall behind_falls",
    "programs": "best shows_best",
    "dispatch": "is_plan flows_of cost_of holds cheapest shows_cheapest",
    "shedding": "lost least_shed shows_least_shed best_plan shows_best_plan",
    "safe": "is_safe safe_plan shows_safe_plan mended shows_mended behind_each",
    "ready": "ready_plan shows_ready_plan is_ready price_of_ready",
    "cascades": "left_behind served cascade",
    "hours": "hours_plan shows_hours_plan",
    "starts": "cheapest_on shows_cheapest_on",
    "switching": "best_off shows_best_off hurtful",
    "offers": "best_build shows_best_build",
    "anyneeds": "surely shows_surely worst shows_worst",
    "curves": "cost_curve cost_at",
    "meters": "state told_flows needed fewest_wrong",
    "fitting": "fitted",
    "market": "settlement gains rights_worth are_borne",
    "drills": "drills weakest falls_with",
    "gridtexts": "write_grid read_grid",
    "sheets": "sheet_of judge_sheet",
    "room": "Room",
    "desk": "Desk",
}
METHODS_LISTED = {
    "Room": "fall back need undo ready trips if_falls grid down plan papers lost cost log",
    "Desk": "read say",
}
PROPERTIES = "grid down plan papers lost cost log".split()


def parsed():
    return {path.stem: ast.parse(path.read_text()) for path in sorted(FOLDER.glob("*.py"))}


def bound_names(tree):
    """Return all names that a tree assigns, as variables, parameters, functions or classes."""
    names = []
    for node in ast.walk(tree):
        if isinstance(node, (ast.FunctionDef, ast.ClassDef)):
            names.append(node.name)
        elif isinstance(node, ast.arg):
            names.append(node.arg)
        elif isinstance(node, ast.Name) and isinstance(node.ctx, ast.Store):
            names.append(node.id)
    return names


class Language(unittest.TestCase):
    def test_files(self):
        # L1, L10, L14
        for path in FOLDER.iterdir():
            if path.name != "__pycache__":
                self.assertEqual(path.suffix, ".py", path)
                text = path.read_text(encoding="utf-8")
                self.assertLessEqual(len(text.splitlines()), 399, path)
                for line in text.splitlines():
                    self.assertLessEqual(len(line), 120, line)
                    self.assertTrue(all(" " <= sign <= "~" for sign in line), line)

    def test_sizes_of_functions(self):
        # L10
        for name, tree in parsed().items():
            for node in ast.walk(tree):
                if isinstance(node, ast.FunctionDef):
                    self.assertLessEqual(node.end_lineno - node.lineno + 1, 40, (name, node.name))

    def test_imports(self):
        # L2, L15, L16
        trees = parsed()
        needs = {}
        for name, tree in trees.items():
            imported = []
            needs[name] = set()
            for node in ast.walk(tree):
                if isinstance(node, ast.ImportFrom):
                    self.assertIn(node, tree.body)
                    self.assertEqual(node.level, 0)
                    imported += [alias.name for alias in node.names]
                    self.assertFalse(any(alias.asname for alias in node.names))
                    if node.module in LIBRARY:
                        self.assertLessEqual({alias.name for alias in node.names}, LIBRARY[node.module])
                        continue
                    folder, _, stem = node.module.partition(".")
                    self.assertEqual(folder, "wattkeep")
                    needs[name].add(stem)
                    defined = {item.name for item in trees[stem].body if hasattr(item, "name")}
                    defined |= {item.targets[0].id for item in trees[stem].body if isinstance(item, ast.Assign)}
                    self.assertLessEqual({alias.name for alias in node.names}, defined)
            self.assertEqual(len(imported), len(set(imported)), name)
            self.assertFalse(set(imported) & set(bound_names(tree)), name)
            used = {node.id for node in ast.walk(tree) if isinstance(node, ast.Name)}
            self.assertLessEqual(set(imported), used, name)
        while needs:
            free = [name for name in needs if not needs[name] & set(needs)]
            self.assertTrue(free, "files that import from each other")
            needs = {name: needs[name] for name in needs if name not in free}

    def test_statements_and_values(self):
        # L6, L7, L8, L19, L24, L27
        for name, tree in parsed().items():
            for node in ast.walk(tree):
                self.assertIsInstance(node, NODES, (name, getattr(node, "lineno", 0)))
                self.assertNotIsInstance(node, (ast.Div, ast.Set, ast.SetComp, ast.MatMult))
                if isinstance(node, ast.Constant):
                    self.assertNotIsInstance(node.value, (float, complex))
                    if isinstance(node.value, str):
                        self.assertNotIn("%", node.value)
                if isinstance(node, ast.Raise):
                    self.assertIsInstance(node.exc, ast.Call)
                if isinstance(node, ast.Try):
                    # Own errors alone, by their names.
                    own = {handler.type.id for handler in node.handlers}
                    self.assertLessEqual(own, set(LISTED["errors"].split()))
                    self.assertEqual([handler.name for handler in node.handlers], [None] * len(node.handlers))
                    self.assertEqual((node.orelse, node.finalbody), ([], []))

    def test_properties(self):
        # L4, L5: a property only tells what its object holds.
        for name, tree in parsed().items():
            found = {}
            for node in ast.walk(tree):
                if isinstance(node, ast.FunctionDef) and node.decorator_list:
                    self.assertEqual([ast.unparse(part) for part in node.decorator_list], ["property"])
                    found[node.name] = node
            self.assertEqual(sorted(found), sorted(PROPERTIES) if name == "room" else [])
            for node in found.values():
                self.assertEqual([ast.unparse(part) for part in node.args.args], ["self"])
                self.assertIsInstance(node.body[0].value, ast.Constant)
                self.assertIsInstance(node.body[1], ast.Return)
                self.assertEqual(len(node.body), 2)

    def test_names(self):
        # L8, L12, L15, L17, L25
        trees = parsed()
        methods = {
            node.name for tree in trees.values() for owner in ast.walk(tree) if isinstance(owner, ast.ClassDef)
            for node in owner.body if isinstance(node, ast.FunctionDef)
        }
        for name, tree in trees.items():
            for known in bound_names(tree):
                self.assertNotIn(known, dir(builtins), name)
                self.assertNotIn(known, NOT_NAMES, name)
                self.assertTrue(known == "__init__" or not known.startswith("__"), known)
            top = [node.name for node in tree.body if hasattr(node, "name")]
            top += [node.targets[0].id for node in tree.body if isinstance(node, ast.Assign)]
            self.assertEqual(len(top), len(set(top)), name)
            for node in ast.walk(tree):
                if isinstance(node, ast.Name) and node.id in dir(builtins):
                    self.assertIn(node.id, BUILTINS | {"property"} if name == "room" else BUILTINS, name)
                if isinstance(node, ast.Call) and isinstance(node.func, ast.Attribute):
                    self.assertTrue(node.func.attr in METHODS | methods | {"__init__"}, (name, node.func.attr))

    def test_calls_that_are_iterated_at_once(self):
        # L23, L24: none of these is kept, and a set is only measured.
        for name, tree in parsed().items():
            for node in ast.walk(tree):
                if isinstance(node, ast.Assign) and isinstance(node.value, ast.Call):
                    called = getattr(node.value.func, "id", getattr(node.value.func, "attr", ""))
                    kept = ("zip", "range", "enumerate", "reversed", "items", "keys", "values", "set", "combinations")
                    self.assertNotIn(called, kept, name)
            text = ast.unparse(tree)
            self.assertEqual(text.count("set("), text.count("len(set("), name)

    def test_the_interface_stands_where_it_is_listed(self):
        # L16
        trees = parsed()
        for module, words in LISTED.items():
            defined = {node.name for node in trees[module].body if isinstance(node, (ast.FunctionDef, ast.ClassDef))}
            self.assertLessEqual(set(words.split()), defined)
            for owner in trees[module].body:
                if isinstance(owner, ast.ClassDef) and owner.name in METHODS_LISTED:
                    methods = {node.name for node in owner.body if isinstance(node, ast.FunctionDef)}
                    self.assertLessEqual(set(METHODS_LISTED[owner.name].split()), methods)


if __name__ == "__main__":
    unittest.main()
