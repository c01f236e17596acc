"""The interface, and what the package is made of."""

import ast
import inspect
import pathlib
import unittest

import bestoflast
from bestoflast import (
    beside, bills, bounds, desk, errors, files, means, owns, reach, rules, texts, told, turns, worse,
)

FOLDER = pathlib.Path(bestoflast.__file__).parent
LIBRARY = {"heapq", "math", "itertools"}
FUNCTIONS = {
    rules: {
        "need_rule": ["thing"],
        "need_row": ["thing"],
        "index": ["rule", "row"],
        "indexes": ["rule", "row"],
        "layer": ["row", "level"],
    },
    bills: {
        "need_bill": ["thing"],
        "width": ["bill"],
        "pays": ["bill", "row"],
        "worth": ["bill", "row"],
        "added": ["bill", "other"],
    },
    bounds: {
        "is_bounded": ["bill"],
        "greatest": ["bill"],
        "best_row": ["bill"],
        "bound_paper": ["bill"],
        "check_bound": ["bill", "paper"],
    },
    worse: {
        "gain": ["bill", "row", "other"],
        "greatest_gain": ["bill", "kind"],
        "gain_rows": ["bill", "kind"],
        "does_pay": ["bill", "kind"],
        "worse_paper": ["bill"],
        "check_worse": ["bill", "paper"],
    },
    files: {
        "under": ["manager", "deed"],
    },
    texts: {
        "bill_text": ["bill"],
        "read_bill": ["string"],
        "row_text": ["row"],
        "read_row": ["string"],
    },
    means: {
        "mean": ["bill", "place", "bits"],
        "top": ["bill"],
        "low": ["bill"],
        "top_ring": ["bill"],
        "top_paper": ["bill"],
        "check_top": ["bill", "paper"],
        "top_gain": ["bill"],
    },
    owns: {
        "edge": ["bill"],
        "edge_paper": ["bill"],
        "check_edge": ["bill", "paper"],
        "fair": ["bill"],
        "fair_rows": ["bill"],
    },
    beside: {
        "never_above": ["rule", "other", "rounds=0"],
        "above_row": ["rule", "other", "rounds=0"],
        "suits": ["rule", "other", "rounds=0"],
    },
    reach: {
        "reach": ["rule", "row", "most", "rounds"],
        "greatest_way": ["rule", "row", "most", "rounds"],
        "soonest": ["rule", "row", "most", "goal"],
        "rise": ["rule", "rounds"],
        "fall": ["rule", "rounds"],
        "rise_row": ["rule", "rounds"],
    },
    turns: {
        "turned": ["bill", "row", "number"],
        "turn": ["bill", "row", "number"],
        "greatest_turn": ["bill"],
        "turn_row": ["bill"],
    },
    told: {
        "does_tell": ["row", "many"],
        "telling_row": ["many"],
        "rule_told": ["row", "numbers"],
        "fitting": ["menu", "seen"],
        "best_ask": ["menu", "seen", "size"],
    },
}
CLASSES = {
    errors: {
        "BadRule": ["number"],
        "BadRow": ["number"],
        "BadBill": ["part"],
        "BadNumber": ["value"],
        "BadKind": ["value"],
        "BadPaper": ["part"],
        "BadText": ["line"],
        "Nothing": ["value"],
    },
    files: {
        "File": ["bill"],
    },
    desk: {
        "Desk": ["text"],
    },
}


def arguments(call):
    """The names of the arguments by place or by name, some with a default behind."""
    found = inspect.signature(call).parameters.values()
    plain = inspect.Parameter.POSITIONAL_OR_KEYWORD
    return [str(one) for one in found if one.kind == plain]


class Interface(unittest.TestCase):

    def test_names_and_arguments(self):
        for table in (FUNCTIONS, CLASSES):
            for module, names in table.items():
                for name, wanted in names.items():
                    call = getattr(module, name)
                    self.assertEqual(arguments(call), wanted, name)
                    self.assertEqual(len(inspect.signature(call).parameters), len(wanted), name)
                    self.assertEqual(call.__module__, module.__name__, name)

    def test_errors_are_made_in_their_own_class(self):
        for name in CLASSES[errors]:
            self.assertIn("__init__", vars(getattr(errors, name)))


class Source(unittest.TestCase):

    def files(self):
        found = sorted(FOLDER.rglob("*.py"))
        self.assertTrue(found)
        return [(path, path.read_text(encoding="utf-8")) for path in found]

    def test_the_folder_contains_nothing_else(self):
        for path in FOLDER.rglob("*"):
            if "__pycache__" not in path.parts and not path.is_dir():
                self.assertEqual(path.suffix, ".py", path)

    def test_only_the_package_and_its_library_are_imported(self):
        for path, text in self.files():
            for node in ast.walk(ast.parse(text)):
                self.assertNotIsInstance(node, ast.Import, path)
                if isinstance(node, ast.ImportFrom):
                    self.assertEqual(node.level, 0, path)
                    self.assertTrue(node.module.startswith("bestoflast.") or node.module in LIBRARY, path)

    def test_no_floats(self):
        for path, text in self.files():
            for node in ast.walk(ast.parse(text)):
                self.assertNotIsInstance(node, ast.Div, path)
                if isinstance(node, ast.Constant):
                    self.assertNotIsInstance(node.value, float, path)

    def test_sizes_and_signs(self):
        for path, text in self.files():
            lines = text.split("\n")
            self.assertLess(len(lines), 400, path)
            self.assertLessEqual(max(map(len, lines)), 120, path)
            self.assertTrue(all(sign == "\n" or " " <= sign <= "~" for sign in text), path)
            for node in ast.walk(ast.parse(text)):
                if isinstance(node, ast.FunctionDef):
                    self.assertLessEqual(node.end_lineno - node.lineno, 39, (path, node.name))
