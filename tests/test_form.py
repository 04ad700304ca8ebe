"""The form of the package: the plainer rules that its files keep."""

import ast
import pathlib
import re
import unittest
import warnings

TOP = pathlib.Path(__file__).resolve().parent.parent
PACKAGE = TOP / "freshcells"

INTERFACE = {
    "errors": ("BookError", "NoSum", "NoCell", "NoPlace", "NoText", "NoSaying", "TooMany", "NoRow", "NoDeed",
               "Unready", "NoName", "Nothing"),
    "sums": ("is_name", "read_sum", "sum_text", "value_in"),
    "cells": ("Cell", "may_read", "may_set"),
    "runs": ("run_in",),
    "books": ("Book", "played"),
    "tops": ("top", "top_room", "is_fresh", "stale", "reason"),
    "plans": ("mends", "fewest", "fence_of"),
    "leavings": ("leavings", "shown_by"),
    "orders": ("edges_of", "choices_of", "gone_of", "stands"),
    "looker": ("holds", "paper_of"),
    "texts": ("book_text", "read_book"),
    "desk": ("Desk",),
}

METHODS = {
    "Cell": ("__init__", "__len__", "__eq__", "__str__", "__repr__"),
    "Book": ("__init__", "__len__", "put", "edit", "move", "strike", "empty", "run", "undo", "redo", "trial", "order",
             "wording", "outcome", "last", "room", "setter", "sources", "deeds"),
    "Desk": ("__init__", "say"),
}

BUILTINS = ("len range enumerate zip min max sum abs sorted reversed int str bool list tuple dict set isinstance ord "
            "repr any all divmod super map iter next").split()

BARRED = re.compile(r"\b(type|typing|enum|Enum|Flag|Generic|Protocol|ABC|namedtuple|NamedTuple|TypedDict)\b"
                    r"|dataclass|overload|contextmanager|_wall")


def files():
    """Tell the files of the package with their texts and trees."""
    told = []
    for path in sorted(PACKAGE.glob("*.py")):
        text = path.read_text(encoding="utf-8")
        told.append((path.name, text, ast.parse(text)))
    return told


def nodes(tree, *kinds):
    """Tell the nodes of some kinds in a tree."""
    return [node for node in ast.walk(tree) if isinstance(node, kinds)]


class FormTest(unittest.TestCase):

    def test_interface_stands_in_its_files(self):
        for module, names in INTERFACE.items():
            tree = ast.parse((PACKAGE / f"{module}.py").read_text(encoding="utf-8"))
            defined = [node.name for node in tree.body if isinstance(node, (ast.FunctionDef, ast.ClassDef))]
            for name in names:
                self.assertEqual(defined.count(name), 1, name)

    def test_methods_stand_in_their_classes(self):
        found = {node.name: node for _, _, tree in files() for node in nodes(tree, ast.ClassDef)}
        for name, methods in METHODS.items():
            defined = [node.name for node in found[name].body if isinstance(node, ast.FunctionDef)]
            for method in methods:
                self.assertEqual(defined.count(method), 1, method)

    def test_no_name_is_a_method_and_an_attribute(self):
        methods, attributes = set(), set()
        for _, _, tree in files():
            for node in nodes(tree, ast.ClassDef):
                methods |= {inner.name for inner in node.body if isinstance(inner, ast.FunctionDef)}
            attributes |= {node.attr for node in nodes(tree, ast.Attribute) if isinstance(node.ctx, ast.Store)}
        self.assertEqual(methods & attributes, set())

    def test_folder_holds_source_files_alone(self):
        for path in PACKAGE.iterdir():
            self.assertTrue(path.suffix == ".py" or path.name == "__pycache__", path.name)
        self.assertTrue((PACKAGE / "__init__.py").exists())

    def test_sizes_and_signs(self):
        for name, text, tree in files():
            lines = text.splitlines()
            self.assertLess(len(lines), 400, name)
            self.assertLessEqual(max([len(line) for line in lines]), 120, name)
            self.assertTrue(all([sign == "\n" or " " <= sign <= "~" for sign in text]), name)
            for node in nodes(tree, ast.FunctionDef):
                self.assertLessEqual(node.end_lineno - node.lineno + 1, 40, node.name)

    def test_words(self):
        for name, text, tree in files():
            self.assertIsNone(BARRED.search(text), name)
            for node in nodes(tree, ast.Constant):
                self.assertFalse(isinstance(node.value, float), name)
                self.assertFalse(isinstance(node.value, str) and "%" in node.value, name)

    def test_imports(self):
        for name, _, tree in files():
            self.assertEqual(nodes(tree, ast.Import), [], name)
            for node in nodes(tree, ast.ImportFrom):
                self.assertIn(node, tree.body, name)
                self.assertEqual(node.level, 0, name)
                self.assertTrue(node.module.startswith("freshcells."), name)

    def test_statements_and_builtins(self):
        barred = (ast.Global, ast.AsyncFunctionDef, ast.Div, ast.GeneratorExp, ast.AnnAssign)
        for name, _, tree in files():
            self.assertEqual(nodes(tree, *barred), [], name)
            own = [node.name for node in nodes(tree, ast.FunctionDef, ast.ClassDef)]
            taken = [item.name for node in nodes(tree, ast.ImportFrom) for item in node.names]
            handed = [node.arg for node in nodes(tree, ast.arg)]
            for node in nodes(tree, ast.Call):
                if isinstance(node.func, ast.Name):
                    self.assertIn(node.func.id, BUILTINS + own + taken + handed, name)

    def test_no_warning(self):
        with warnings.catch_warnings():
            warnings.simplefilter("error")
            for name, text, _ in files():
                compile(text, name, "exec")


if __name__ == "__main__":
    unittest.main()
