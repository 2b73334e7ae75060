"""The names of the interface, where they are defined, and the form of the files of the package."""

import ast
import importlib
import inspect
import unittest
from pathlib import Path

from rimohms.lab import Lab

PACKAGE = Path(__file__).resolve().parent.parent / "rimohms"

# module: {function: its arguments}
FUNCTIONS = {
    "ratio": {
        "ratio": "top bottom",
        "plus": "left right",
        "minus": "left right",
        "times": "left right",
        "over": "left right",
        "opposite": "value",
        "less": "left right",
        "total": "values",
        "is_ratio": "value",
    },
    "drawing": {"check_net": "net"},
    "netmap": {"left_face": "net dart", "ends_of": "net"},
    "texts": {"parse_net": "text", "show_net": "net"},
    "measure": {
        "table_of": "net",
        "voltages": "net given",
        "currents": "net given",
        "power": "net given",
        "resistance": "net first second",
    },
    "linear": {"determinant": "rows", "solved": "rows right"},
    "trees": {"forest_weight": "net", "tree_weight": "net"},
    "minors": {"circular_pairs": "rim", "minor": "table heads tails", "refusal": "table"},
    "paths": {"ways": "net heads tails"},
    "numbering": {"numbered": "net"},
    "moves": {"apply_move": "net move", "apply_moves": "net moves", "leads": "net moves goal"},
    "strands": {"strand_ends": "net", "strand_edges": "net", "has_fewest": "net"},
    "reduction": {"fewest": "net"},
    "standard": {"standard": "net"},
    "shapes": {"amounts_for": "net table"},
    "rebuild": {"greatest_edge": "table i j", "greatest_spike": "table i", "rebuild": "table"},
    "compare": {"alike": "first second", "judge": "first second answer"},
    "edits": {"changed_table": "table net edge amount", "merged_table": "pieces kept"},
    "views": {"turned": "net", "mirrored": "net", "dual": "net"},
}

# The methods of Lab and their arguments behind self.
LAB = {
    "read": "name text",
    "net": "name",
    "text": "name",
    "table": "name",
    "move": "name move",
    "change": "name edge amount",
    "shrink": "name",
    "same": "name second",
    "merge": "name pieces kept",
    "names": "",
}


class Interface(unittest.TestCase):
    def test_functions(self):
        for place, functions in FUNCTIONS.items():
            module = importlib.import_module(f"rimohms.{place}")
            for name, arguments in functions.items():
                function = getattr(module, name)
                self.assertEqual(function.__module__, f"rimohms.{place}")
                self.assertEqual(list(inspect.signature(function).parameters), arguments.split())

    def test_lab(self):
        self.assertEqual(Lab.__module__, "rimohms.lab")
        self.assertEqual(list(inspect.signature(Lab).parameters), [])
        for name, arguments in LAB.items():
            method = vars(Lab)[name]
            self.assertEqual(list(inspect.signature(method).parameters), ["self", *arguments.split()])


class Form(unittest.TestCase):
    def test_folder_holds_sources_only(self):
        names = sorted(path.name for path in PACKAGE.iterdir() if path.name != "__pycache__")
        self.assertIn("__init__.py", names)
        for name in names:
            self.assertRegex(name, r"\A[a-z_]+\.py\Z")

    def test_sizes_and_characters(self):
        for path in PACKAGE.glob("*.py"):
            text = path.read_bytes().decode("ascii")
            lines = text.split("\n")
            self.assertLess(len(lines), 400, path)
            self.assertLessEqual(max(map(len, lines)), 120, path)
            self.assertEqual([c for c in text if c != "\n" and not " " <= c <= "~"], [], path)
            for part in ast.walk(ast.parse(text)):
                if isinstance(part, ast.FunctionDef):
                    self.assertLessEqual(part.end_lineno - part.lineno + 1, 40, part.name)

    def test_no_floats(self):
        for path in PACKAGE.glob("*.py"):
            for part in ast.walk(ast.parse(path.read_text())):
                self.assertNotIsInstance(part, ast.Div, path)
                if isinstance(part, ast.Constant):
                    self.assertNotIsInstance(part.value, (float, complex), path)

    def test_imports(self):
        for path in PACKAGE.glob("*.py"):
            for part in ast.walk(ast.parse(path.read_text())):
                self.assertNotIsInstance(part, ast.Import, path)
                if isinstance(part, ast.ImportFrom):
                    outside = part.module in ("heapq", "math", "itertools", "collections")
                    self.assertTrue(outside or part.module.startswith("rimohms."), path)
                    if not outside:
                        module = importlib.import_module(part.module)
                        for alias in part.names:
                            thing = getattr(module, alias.name)
                            self.assertEqual(getattr(thing, "__module__", part.module), part.module)


if __name__ == "__main__":
    unittest.main()
