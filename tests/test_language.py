"""Some of the rules for the files of the package, those that a plain look can tell."""

import ast
import builtins
import sys
import unittest
import warnings
from functools import cache
from pathlib import Path

import maskpaint
from maskpaint import benches, comings, desks, goods, maps, pots, tales, texts, trees, twins, wits

FOLDER = Path(maskpaint.__file__).parent
FILES = sorted(FOLDER.glob("*.py"))
LIBRARY = {
    "heapq": {"heappush", "heappop", "heapify", "heapreplace", "heappushpop"},
    "math": {"gcd", "lcm", "isqrt", "comb", "perm", "factorial"},
    "itertools": {
        "product", "combinations", "permutations", "chain", "accumulate", "pairwise", "islice",
        "zip_longest"},
    "collections": {"defaultdict", "deque"},
    "__future__": {"annotations"},
}
BUILTINS = {
    "len", "range", "enumerate", "zip", "min", "max", "sum", "abs", "sorted", "reversed", "int", "str", "bool", "bytes",
    "list", "tuple", "dict", "set", "isinstance", "ord", "repr", "any", "all", "divmod", "super", "property",
    "ValueError", "KeyError", "IndexError", "LookupError", "TypeError", "True", "False", "None"}
METHODS_OF_BUILTINS = {
    "append", "clear", "copy", "count", "endswith", "extend", "find", "get", "index", "insert", "isdigit", "items",
    "join", "keys", "partition", "pop", "remove", "replace", "reverse", "setdefault", "split", "splitlines",
    "startswith", "strip", "update", "values"}
# What this package does without, of all that is allowed or not.
STATEMENTS_DONE_WITHOUT = (
    ast.AsyncFunctionDef, ast.Global, ast.Nonlocal, ast.Try, ast.With, ast.Match, ast.Yield, ast.YieldFrom,
    ast.NamedExpr, ast.Set, ast.Delete, ast.Assert, ast.AnnAssign, ast.Starred, ast.Div, ast.Pow, ast.Mod)
BARRED_WORDS = (
    r"\b(type|typing|enum|Enum|Flag|Generic|Protocol|ABC|namedtuple|NamedTuple|register|mro|elements|open|input|law)\b"
    "|dataclass|overload|contextmanager|_wall|%")
INTERFACE = {
    maps: ("near", "most_mutual", "bare_rows", "left_out", "need", "count_paintings", "is_good"),
    trees: ("tree", "map_of", "shows_tree", "tree_need", "tree_paintings"),
    comings: (
        "paints", "wasted", "worst", "most_wasted", "worst_coming", "worst_lots", "shows_worst_lots"),
    wits: ("follow", "waste_of", "fool", "shows_fool"),
    goods: ("count_good", "mends", "other_side"),
    benches: ("Bench",),
    texts: (
        "map_text", "tree_text", "coming_text", "wit_text", "read_map", "read_tree", "read_coming", "read_wit"),
    tales: ("tale",),
    twins: ("twins", "twin_row", "shows_twin_row", "with_house", "may_come"),
    pots: ("by_pots", "sent_away", "fewest_away", "slip", "shows_slip"),
    desks: ("Desk",),
}
METHODS = {benches.Bench: ("__init__", "come", "paint", "back", "by_rule"), desks.Desk: ("__init__", "do")}
PROPERTIES = {benches.Bench: ("coming", "paints", "waste")}


@cache
def parsed(path):
    with warnings.catch_warnings():
        warnings.simplefilter("error")
        return ast.parse(path.read_text("ascii"), str(path))


def is_plain_name(node):
    """Whether a statement gives one name a plain value."""
    return isinstance(node, ast.Assign) and len(node.targets) == 1 and bool(ast.literal_eval(node.value) or True)


def many_in_any_and_all(path):
    """How many generator expressions of a file are all that any or all is passed."""
    calls = [node for node in ast.walk(parsed(path)) if isinstance(node, ast.Call)]
    calls = [node for node in calls if isinstance(node.func, ast.Name) and node.func.id in ("any", "all")]
    return sum(len(node.args) == 1 and isinstance(node.args[0], ast.GeneratorExp) for node in calls)


def local_names(path):
    """The names of all parameters and variables of the functions of a file."""
    names = set()
    for function in ast.walk(parsed(path)):
        if isinstance(function, ast.FunctionDef):
            nodes = list(ast.walk(function))
            names |= {node.arg for node in nodes if isinstance(node, ast.arg)}
            names |= {node.id for node in nodes if isinstance(node, ast.Name) and isinstance(node.ctx, ast.Store)}
    return names


class TestLanguage(unittest.TestCase):
    def test_only_files_of_the_package(self):
        names = {path.name for path in FOLDER.iterdir()} - {"__pycache__"}
        self.assertEqual(names, {path.name for path in FILES})
        self.assertIn("__init__.py", names)

    def test_lines(self):
        for path in FILES:
            lines = path.read_text("ascii").split("\n")
            self.assertLessEqual(len(lines), 400, path.name)
            for line in lines:
                self.assertLessEqual(len(line), 120, path.name)
                self.assertTrue(all(" " <= sign <= "~" for sign in line), path.name)
                self.assertEqual(line, line.rstrip(), path.name)

    def test_functions_are_short(self):
        for path in FILES:
            for node in ast.walk(parsed(path)):
                if isinstance(node, ast.FunctionDef):
                    self.assertLessEqual(node.end_lineno - node.lineno + 1, 40, node.name)

    def test_imports(self):
        for path in FILES:
            for node in ast.walk(parsed(path)):
                self.assertNotIsInstance(node, ast.Import, path.name)
                if isinstance(node, ast.ImportFrom):
                    self.assertEqual(node.level, 0, path.name)
                    if not node.module.startswith("maskpaint."):
                        self.assertLessEqual({name.name for name in node.names}, LIBRARY[node.module])

    def test_builtins(self):
        for path in FILES:
            names = {node.id for node in ast.walk(parsed(path)) if isinstance(node, ast.Name)}
            self.assertLessEqual(names & set(dir(builtins)), BUILTINS, path.name)

    def test_methods_that_are_called(self):
        own = {name for names in METHODS.values() for name in names}
        for path in FILES:
            nodes = [node.func for node in ast.walk(parsed(path)) if isinstance(node, ast.Call)]
            called = {node.attr for node in nodes if isinstance(node, ast.Attribute) and node.attr[:1] != "_"}
            self.assertLessEqual(called, METHODS_OF_BUILTINS | own, path.name)

    def test_statements(self):
        for path in FILES:
            for node in ast.walk(parsed(path)):
                self.assertNotIsInstance(node, STATEMENTS_DONE_WITHOUT, path.name)
            generators = [node for node in ast.walk(parsed(path)) if isinstance(node, ast.GeneratorExp)]
            self.assertEqual(len(generators), many_in_any_and_all(path), path.name)

    def test_nothing_stands_at_module_level_but_definitions(self):
        for path in FILES:
            for at, node in enumerate(parsed(path).body):
                docstring = at == 0 and isinstance(node, ast.Expr) and isinstance(node.value, ast.Constant)
                allowed = isinstance(node, (ast.ImportFrom, ast.FunctionDef, ast.ClassDef))
                self.assertTrue(docstring or allowed or is_plain_name(node), path.name)

    def test_names_are_bound_once(self):
        for path in FILES:
            bound = []
            for node in parsed(path).body:
                if isinstance(node, ast.ImportFrom):
                    bound += [name.name for name in node.names]
                elif isinstance(node, ast.Assign):
                    bound += [target.id for target in node.targets]
                elif not isinstance(node, ast.Expr):
                    bound.append(node.name)
            self.assertEqual(len(set(bound)), len(bound), path.name)
            self.assertFalse(set(bound) & set(dir(builtins)), path.name)
            self.assertFalse(set(bound) & local_names(path), path.name)

    def test_no_barred_words(self):
        for path in FILES:
            self.assertNotRegex(path.read_text("ascii"), BARRED_WORDS)

    def test_interface_stands_where_it_is_listed(self):
        for module, names in INTERFACE.items():
            for name in names:
                self.assertEqual(getattr(module, name).__module__, module.__name__)

    def test_methods_stand_in_their_class(self):
        for owner, names in METHODS.items():
            self.assertTrue(all(callable(vars(owner)[name]) for name in names))
        for owner, names in PROPERTIES.items():
            self.assertTrue(all(isinstance(vars(owner)[name], property) for name in names))

    def test_modules_come_from_this_folder(self):
        for name, module in list(sys.modules.items()):
            if name.split(".")[0] == "maskpaint":
                self.assertEqual(Path(module.__file__).parent, FOLDER)


if __name__ == "__main__":
    unittest.main()
