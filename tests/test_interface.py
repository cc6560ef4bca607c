"""The section "The interface": which names there are, in which file, and what imports what."""

import ast
import importlib
import inspect
import pathlib
import unittest

FOLDER = pathlib.Path(__file__).resolve().parent.parent / "oncefound"

# The modules in the order of the document; errors.py has a test of its own.
INTERFACE = {
    "errors": {},
    "tables": {
        "Table": "kinds rows", "is_row": "table thing", "is_full": "table", "used": "table matter",
        "having": "table matter custom", "sorts": "table",
    },
    "changing": {
        "kept": "table matters", "picked": "table valleys", "read": "table valley matter custom",
        "with_row": "table row", "with_matter": "table kind column", "merged": "table matter one other",
        "exchanged": "table matters valleys customs",
    },
    "texts": {"to_text": "table", "from_text": "text"},
    "trees": {
        "Tree": "ties seats", "path": "tree one other", "middle": "tree one other third", "parting": "tree tie",
        "partings": "tree", "alike": "one other", "are_partings": "many thing", "tree_of": "many lots",
        "normal": "tree", "joined": "tree tie", "added": "tree lot", "finer": "one other", "common": "one other",
    },
    "pieces": {"piece": "tree table matter custom", "fits": "tree table", "clash": "tree table"},
    "fillings": {
        "is_filling": "tree table thing", "filling": "tree table", "choices": "tree table place matter",
        "fillings_many": "tree table", "changes": "tree table rows",
    },
    "splits": {"crossed": "table", "least_tree": "table", "four": "table one other", "table_of": "tree"},
    "middles": {
        "majority": "table one other third", "closure": "table", "crossing_lots": "table", "steps_back": "table row",
    },
    "customtrees": {
        "custom_trees": "table matter", "is_custom_tree": "table matter thing",
        "pair_partings": "table matter custom_tree", "agree": "table one first other second",
    },
    "arrows": {
        "arrow_clash": "table arrows", "arrow_tree": "table arrows", "arrow_filling": "table arrows",
        "arrows_of": "tree table rows",
    },
    "chooser": {
        "some_fit": "table", "fitting_tree": "table", "good_arrows": "table", "choice_list": "table",
        "is_choice_list": "table thing",
    },
    "web": {"marks": "table", "web": "table"},
    "rings": {"open_ring": "table more", "is_ring": "table more thing"},
    "closings": {
        "is_closing": "table thing", "closing_of": "tree table rows", "closing": "table",
        "tree_of_closing": "table more",
    },
    "cases": {"case_list": "table", "is_case_list": "table thing"},
    "threes": {"bad_three": "table", "middle_pairs": "table one other", "pairs_example": ""},
    "chains": {"chain": "table", "is_chain": "table thing"},
    "lots": {"failing_lots": "table", "fitting_lots": "table", "ways_out": "table", "apart_lots": "table"},
    "listing": {
        "all_trees": "many", "fitting": "table", "least": "table", "agreed": "table", "only": "table", "idle": "table",
    },
    "grown": {
        "partings_free": "tree", "is_grown": "tree", "grown": "tree", "grown_many": "tree", "all_grown": "tree",
    },
    "mixed": {"mixture": "table valley", "is_mixture": "table valley thing"},
    "quartets": {
        "parts": "tree quartet", "quartets": "tree", "are_quartets": "many thing", "tree_of_quartets": "many several",
    },
    "claims": {
        "is_sure": "table quartet", "against": "table quartet", "sure_quartets": "table", "sure_partings": "table",
        "sure_paper": "table quartet", "is_sure_paper": "table quartet thing",
    },
    "cells": {"possible": "table valley matter", "sure_cells": "table"},
    "fewest": {
        "fewest": "tree table matter", "ways_many": "tree table matter", "first_way": "tree table matter",
        "customs_at": "tree table place matter", "extra": "tree table",
    },
    "apart": {"are_apart": "tree table matter thing", "apart_paths": "tree table matter"},
    "best": {"best": "table"},
    "book": {"Book": "table"},
    "desk": {"Desk": "table"},
}
METHODS = {
    ("tables", "Table"): {"__eq__": "other"},
    ("trees", "Tree"): {"__eq__": "other"},
    ("book", "Book"): {
        "add_valley": "row", "drop_valley": "valley", "read": "valley matter custom", "add_matter": "kind column",
        "drop_matter": "matter", "merge": "matter one other", "undo": "", "redo": "", "first": "", "table": "",
        "at": "count", "log": "", "undone": "", "stands": "", "paper": "", "failing": "", "sure": "",
        "possible": "valley matter", "broken": "", "copy": "", "__len__": "", "__eq__": "other",
    },
    ("desk", "Desk"): {"say": "row"},
}
# What may be imported from Python's own library.
LIBRARY = {"itertools": {"combinations"}}
# What is no part of the interface, and imports nothing of it.
FURTHER = ["values"]


def parsed(module):
    return ast.parse((FOLDER / f"{module}.py").read_text(encoding="ascii"))


def defined(module):
    return [node.name for node in parsed(module).body if isinstance(node, (ast.FunctionDef, ast.ClassDef))]


class Interface(unittest.TestCase):
    def test_each_name_is_defined_in_its_file(self):
        for module, names in INTERFACE.items():
            self.assertEqual(set(names) - set(defined(module)), set(), module)

    def test_methods_are_defined_in_their_class(self):
        for (module, name), methods in METHODS.items():
            owner = getattr(importlib.import_module(f"oncefound.{module}"), name)
            for method, wanted in methods.items():
                self.assertIn(method, vars(owner), name)
                parameters = inspect.signature(vars(owner)[method]).parameters
                self.assertEqual(list(parameters)[1:], wanted.split(), method)

    def test_parameters(self):
        for module, names in INTERFACE.items():
            for name, wanted in names.items():
                found = inspect.signature(getattr(importlib.import_module(f"oncefound.{module}"), name)).parameters
                self.assertEqual(list(found), wanted.split(), name)
                for parameter in found.values():
                    self.assertEqual(parameter.kind, parameter.POSITIONAL_OR_KEYWORD, name)
                    self.assertIs(parameter.default, parameter.empty, name)

    def test_imports_come_from_modules_named_before(self):
        order = FURTHER + list(INTERFACE)
        for index, module in enumerate(order):
            for node in ast.walk(parsed(module)):
                self.assertNotIsInstance(node, ast.Import)
                if isinstance(node, ast.ImportFrom) and node.module in LIBRARY:
                    self.assertLessEqual({alias.name for alias in node.names}, LIBRARY[node.module], module)
                elif isinstance(node, ast.ImportFrom):
                    package, _, source = node.module.partition(".")
                    self.assertEqual((package, node.level), ("oncefound", 0), module)
                    self.assertIn(source, order[:index], module)
                    for alias in node.names:
                        self.assertIsNone(alias.asname, module)

    def test_the_folder_has_these_files_alone(self):
        found = sorted(path.name for path in FOLDER.iterdir() if path.name != "__pycache__")
        self.assertEqual(found, sorted(["__init__.py"] + [f"{name}.py" for name in FURTHER + list(INTERFACE)]))

    def test_init_defines_nothing(self):
        for node in parsed("__init__").body:
            self.assertIsInstance(node, ast.Expr)

    def test_sizes_and_characters(self):
        for path in FOLDER.glob("*.py"):
            text = path.read_bytes().decode("ascii")
            lines = text.split("\n")
            self.assertLessEqual(len(lines), 399, path)
            self.assertLessEqual(max(map(len, lines)), 120, path)
            self.assertFalse(any(letter < " " for letter in text.replace("\n", "")), path)
            for node in ast.walk(ast.parse(text)):
                if isinstance(node, ast.FunctionDef):
                    self.assertLessEqual(node.end_lineno - node.lineno + 1, 40, (path, node.name))


if __name__ == "__main__":
    unittest.main()
