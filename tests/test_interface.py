"""Point 109: the names of the interface, their modules and their parameters."""

import ast
import importlib
import inspect
import pathlib
import unittest

PACKAGE = pathlib.Path(__file__).resolve().parent.parent / "tasterow"

FUNCTIONS = {
    "rankings": {
        "is_ranking": "(dishes, value)",
        "reverse_ranking": "(ranking)",
        "ranking_index": "(ranking)",
        "ranking_at": "(dishes, index)",
        "differences": "(one, other)",
        "distance": "(one, other)",
        "is_between": "(one, other, third)",
    },
    "tables": {
        "is_table": "(value)",
        "rankings_of": "(table)",
        "total_weight": "(table)",
        "groups": "(table)",
        "add_taster": "(table, ranking, weight)",
        "remove_taster": "(table, taster)",
        "remove_dish": "(table, dish)",
        "restrict": "(table, menu)",
    },
    "seatings": {
        "is_seating": "(table, value)",
        "splits": "(table, taster)",
    },
    "obstructions": {
        "is_obstruction": "(table, value)",
        "first_seating": "(table)",
        "certificate": "(table)",
        "is_certificate": "(table, value)",
        "minimal_conflicts": "(table)",
    },
    "counting": {
        "count_seatings": "(table)",
        "seating_at": "(table, index)",
        "seating_index": "(table, value)",
        "group_order": "(table)",
    },
    "majorities": {
        "support": "(table, one, other)",
        "majority": "(table)",
        "ties": "(table)",
        "medians": "(table)",
    },
    "menus": {
        "is_menu": "(table, value)",
        "choices": "(table, menu)",
        "blocks": "(table, menu)",
        "cost": "(table, menu)",
        "best_menu": "(table, size)",
        "block_cost": "(table, seating, cuts)",
    },
    "swaps": {
        "swap_path": "(one, other)",
        "is_shortest_path": "(one, other, value)",
        "count_shortest_paths": "(one, other)",
    },
    "chains": {
        "chain": "(table)",
        "is_chain": "(table, value)",
        "full_chain": "(table)",
        "is_full_chain": "(table, value)",
    },
    "extensions": {
        "can_add": "(table, ranking)",
        "insert_positions": "(table, ranking)",
        "add_certificate": "(table, ranking)",
        "is_add_certificate": "(table, ranking, value)",
        "addable_rankings": "(table)",
    },
    "subsets": {
        "heaviest_subset": "(table)",
        "level_certificate": "(table)",
        "is_level_certificate": "(table, value)",
    },
    "lines": {
        "is_line": "(value)",
        "line_ranking": "(line, t)",
        "line_segments": "(line, low, high)",
        "line_distance": "(line, low, high)",
        "line_changes": "(line, low, high)",
    },
}


class Interface(unittest.TestCase):

    def test_functions_have_the_documented_parameters(self):
        for module, functions in FUNCTIONS.items():
            loaded = importlib.import_module(f"tasterow.{module}")
            for name, parameters in functions.items():
                with self.subTest(module=module, name=name):
                    self.assertEqual(str(inspect.signature(getattr(loaded, name))), parameters)

    def test_functions_are_defined_in_their_own_files(self):
        for module, functions in FUNCTIONS.items():
            tree = ast.parse((PACKAGE / f"{module}.py").read_text())
            defined = [node.name for node in tree.body if isinstance(node, ast.FunctionDef)]
            for name in functions:
                with self.subTest(module=module, name=name):
                    self.assertEqual(defined.count(name), 1)
