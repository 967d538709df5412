"""Some of the rules for the files of the package, those that a plain look can tell."""

import ast
import sys
import unittest
import warnings
from pathlib import Path

import maskpaint
from maskpaint import benches, comings, goods, maps, texts, trees, wits

FOLDER = Path(maskpaint.__file__).parent
FILES = sorted(FOLDER.glob("*.py"))
LIBRARY = {
    "heapq": {"heappush", "heappop", "heapify", "heapreplace", "heappushpop"},
    "math": {"gcd", "lcm", "isqrt", "comb", "perm", "factorial"},
    "itertools": {
        "product", "combinations", "permutations", "chain", "accumulate", "pairwise", "islice",
        "zip_longest"},
    "collections": {"defaultdict", "deque"},
    "__future__": {"annotations"},
}
BARRED = {
    "eval", "exec", "open", "input", "print", "filter", "vars", "dir", "globals", "locals", "id", "hash",
    "round", "slice", "object", "callable", "ascii", "bin", "hex", "oct", "complex", "memoryview",
    "bytearray", "breakpoint", "compile", "help", "delattr", "issubclass", "format", "chr"}
BARRED_WORDS = (
    r"\b(type|typing|enum|Enum|Flag|Generic|Protocol|ABC|namedtuple|NamedTuple|register|mro|elements|open|input|law)\b"
    "|dataclass|overload|contextmanager|_wall|%")
INTERFACE = {
    maps: ("near", "most_mutual", "bare_rows", "left_out", "need", "count_paintings", "is_good"),
    trees: ("tree", "map_of", "shows_tree", "tree_need", "tree_paintings"),
    comings: (
        "paints", "wasted", "worst", "most_wasted", "worst_coming", "worst_lots", "shows_worst_lots"),
    wits: ("follow", "waste_of", "fool", "shows_fool"),
    goods: ("count_good", "mends", "other_side"),
    benches: ("Bench",),
    texts: (
        "map_text", "tree_text", "coming_text", "wit_text", "read_map", "read_tree", "read_coming", "read_wit"),
}
METHODS = {benches.Bench: ("__init__", "come", "paint", "back", "by_rule")}
PROPERTIES = {benches.Bench: ("coming", "paints", "waste")}


def parsed(path):
    with warnings.catch_warnings():
        warnings.simplefilter("error")
        return ast.parse(path.read_text("ascii"), str(path))


class TestLanguage(unittest.TestCase):
    def test_only_files_of_the_package(self):
        names = {path.name for path in FOLDER.iterdir()} - {"__pycache__"}
        self.assertEqual(names, {path.name for path in FILES})
        self.assertIn("__init__.py", names)

    def test_lines(self):
        for path in FILES:
            lines = path.read_text("ascii").split("\n")
            self.assertLessEqual(len(lines), 400, path.name)
            for line in lines:
                self.assertLessEqual(len(line), 120, path.name)
                self.assertTrue(all(" " <= sign <= "~" for sign in line), path.name)
                self.assertEqual(line, line.rstrip(), path.name)

    def test_functions_are_short(self):
        for path in FILES:
            for node in ast.walk(parsed(path)):
                if isinstance(node, ast.FunctionDef):
                    self.assertLessEqual(node.end_lineno - node.lineno + 1, 40, node.name)

    def test_imports(self):
        for path in FILES:
            for node in ast.walk(parsed(path)):
                self.assertNotIsInstance(node, ast.Import, path.name)
                if isinstance(node, ast.ImportFrom):
                    self.assertEqual(node.level, 0, path.name)
                    if not node.module.startswith("maskpaint."):
                        self.assertLessEqual({name.name for name in node.names}, LIBRARY[node.module])

    def test_no_barred_names(self):
        for path in FILES:
            for node in ast.walk(parsed(path)):
                if isinstance(node, ast.Name):
                    self.assertNotIn(node.id, BARRED, path.name)
                self.assertNotIsInstance(node, (ast.Div, ast.AsyncFunctionDef), path.name)

    def test_no_barred_words(self):
        for path in FILES:
            self.assertNotRegex(path.read_text("ascii"), BARRED_WORDS)

    def test_interface_stands_where_it_is_listed(self):
        for module, names in INTERFACE.items():
            for name in names:
                self.assertEqual(getattr(module, name).__module__, module.__name__)

    def test_methods_stand_in_their_class(self):
        for owner, names in METHODS.items():
            self.assertTrue(all(callable(vars(owner)[name]) for name in names))
        for owner, names in PROPERTIES.items():
            self.assertTrue(all(isinstance(vars(owner)[name], property) for name in names))

    def test_modules_come_from_this_folder(self):
        for name, module in list(sys.modules.items()):
            if name.split(".")[0] == "maskpaint":
                self.assertEqual(Path(module.__file__).parent, FOLDER)


if __name__ == "__main__":
    unittest.main()
