"""Point 109: the names of the interface, their modules and their parameters."""

import ast
import importlib
import inspect
import pathlib
import unittest

PACKAGE = pathlib.Path(__file__).resolve().parent.parent / "tasterow"

FUNCTIONS = {
    "rankings": {
        "is_ranking": "(dishes, value)",
        "reverse_ranking": "(ranking)",
        "ranking_index": "(ranking)",
        "ranking_at": "(dishes, index)",
        "differences": "(one, other)",
        "distance": "(one, other)",
        "is_between": "(one, other, third)",
    },
    "tables": {
        "is_table": "(value)",
        "rankings_of": "(table)",
        "total_weight": "(table)",
        "groups": "(table)",
        "add_taster": "(table, ranking, weight)",
        "remove_taster": "(table, taster)",
        "remove_dish": "(table, dish)",
        "restrict": "(table, menu)",
    },
    "seatings": {
        "is_seating": "(table, value)",
        "splits": "(table, taster)",
    },
    "obstructions": {
        "is_obstruction": "(table, value)",
        "first_seating": "(table)",
        "certificate": "(table)",
        "is_certificate": "(table, value)",
        "minimal_conflicts": "(table)",
    },
    "counting": {
        "count_seatings": "(table)",
        "seating_at": "(table, index)",
        "seating_index": "(table, value)",
        "group_order": "(table)",
    },
    "majorities": {
        "support": "(table, one, other)",
        "majority": "(table)",
        "ties": "(table)",
        "medians": "(table)",
    },
    "menus": {
        "is_menu": "(table, value)",
        "choices": "(table, menu)",
        "blocks": "(table, menu)",
        "cost": "(table, menu)",
        "best_menu": "(table, size)",
        "block_cost": "(table, seating, cuts)",
    },
    "swaps": {
        "swap_path": "(one, other)",
        "is_shortest_path": "(one, other, value)",
        "count_shortest_paths": "(one, other)",
    },
    "chains": {
        "chain": "(table)",
        "is_chain": "(table, value)",
        "full_chain": "(table)",
        "is_full_chain": "(table, value)",
    },
    "extensions": {
        "can_add": "(table, ranking)",
        "insert_positions": "(table, ranking)",
        "add_certificate": "(table, ranking)",
        "is_add_certificate": "(table, ranking, value)",
        "addable_rankings": "(table)",
    },
    "subsets": {
        "heaviest_subset": "(table)",
        "level_certificate": "(table)",
        "is_level_certificate": "(table, value)",
    },
    "lines": {
        "is_line": "(value)",
        "line_ranking": "(line, t)",
        "line_segments": "(line, low, high)",
        "line_distance": "(line, low, high)",
        "line_changes": "(line, low, high)",
    },
    "spans": {
        "line_support": "(line, low, high, one, other)",
        "line_medians": "(line, low, high)",
        "line_choices": "(line, low, high, menu)",
        "line_cost": "(line, low, high, menu)",
        "line_insert_ranges": "(line, low, high, ranking)",
        "line_table": "(line, places)",
    },
    "texts": {
        "format_ranking": "(ranking)",
        "format_table": "(table)",
        "format_seating": "(seating)",
        "format_obstruction": "(obstruction)",
        "parse_ranking": "(value)",
        "parse_table": "(value)",
        "parse_obstruction": "(value)",
    },
}

# The methods of each class, with the class and its module.
METHODS = {
    ("boards", "Board"): {
        "__init__": "(self, dishes, *, limit=60)",
        "add": "(self, name, ranking, weight)",
        "discard": "(self, name)",
        "set_ranking": "(self, name, ranking)",
        "set_weight": "(self, name, weight)",
        "drop_dish": "(self, dish)",
        "undo": "(self)",
        "apply_all": "(self, operations)",
        "log": "(self)",
        "dish_count": "(self, *, at=None)",
        "names": "(self, *, at=None)",
        "ranking_of": "(self, name, *, at=None)",
        "weight_of": "(self, name, *, at=None)",
        "table": "(self, *, at=None)",
        "seating": "(self, *, at=None)",
        "is_seatable": "(self, *, at=None)",
        "clone": "(self)",
        "__len__": "(self)",
        "__str__": "(self)",
        "__eq__": "(self, other)",
    },
    ("boards", "GuardedBoard"): {
        "__init__": "(self, dishes, *, limit=60)",
    },
    ("consoles", "Console"): {
        "__init__": "(self, board)",
        "execute": "(self, line)",
        "history": "(self)",
    },
}
LIMITS = ("MAX_DISHES", "MAX_TASTERS", "MAX_WEIGHT", "MAX_OPERATIONS", "MAX_BATCH", "LOG_SIZE")


class Interface(unittest.TestCase):

    def test_functions_have_the_documented_parameters(self):
        for module, functions in FUNCTIONS.items():
            loaded = importlib.import_module(f"tasterow.{module}")
            for name, parameters in functions.items():
                with self.subTest(module=module, name=name):
                    self.assertEqual(str(inspect.signature(getattr(loaded, name))), parameters)

    def test_functions_are_defined_in_their_own_files(self):
        for module, functions in FUNCTIONS.items():
            tree = ast.parse((PACKAGE / f"{module}.py").read_text())
            defined = [node.name for node in tree.body if isinstance(node, ast.FunctionDef)]
            for name in functions:
                with self.subTest(module=module, name=name):
                    self.assertEqual(defined.count(name), 1)

    def test_methods_have_the_documented_parameters(self):
        for (module, owner), methods in METHODS.items():
            loaded = getattr(importlib.import_module(f"tasterow.{module}"), owner)
            for name, parameters in methods.items():
                with self.subTest(owner=owner, name=name):
                    # The class itself has the method, not only a base class.
                    self.assertIn(name, vars(loaded))
                    self.assertEqual(str(inspect.signature(vars(loaded)[name])), parameters)

    def test_classes_are_defined_in_their_own_files(self):
        for module, owner in METHODS:
            tree = ast.parse((PACKAGE / f"{module}.py").read_text())
            defined = [node.name for node in tree.body if isinstance(node, ast.ClassDef)]
            self.assertEqual(defined.count(owner), 1)

    def test_limits_are_in_their_module(self):
        limits = importlib.import_module("tasterow.limits")
        for name in LIMITS:
            self.assertIs(type(getattr(limits, name)), int)

    def test_every_section_of_the_document_has_its_module(self):
        names = {path.stem for path in PACKAGE.glob("*.py")}
        wanted = {*FUNCTIONS, *[module for module, owner in METHODS], "errors", "limits", "__init__"}
        self.assertLessEqual(wanted, names)
