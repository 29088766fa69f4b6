"""Tests of [3] and [135]: the names and arguments exist as the document writes them."""

import importlib
import inspect
import unittest

SIGNATURES = {
    "forests": {
        "is_forest": "(value)",
        "forest_error": "(value)",
        "single": "(n)",
        "roots": "(forest)",
        "children_of": "(forest, vertex)",
        "weights": "(forest)",
        "path_of": "(forest, vertex)",
        "tree_of": "(forest, vertex)",
        "renamed": "(forest, names)",
    },
    "builds": {
        "possible_joins": "(forest)",
        "after_join": "(forest, child, parent)",
        "run_joins": "(n, joins)",
        "heavy_children": "(forest)",
        "is_built": "(forest)",
        "certificate": "(forest)",
        "certificate_holds": "(forest, value)",
        "joins_of": "(forest, history)",
        "beside": "(*forests)",
        "states_along": "(forest, history)",
    },
    "histories": {
        "is_history": "(forest, value)",
        "count_child_orders": "(forest, vertex)",
        "count_tree_histories": "(forest, vertex)",
        "count_histories": "(forest)",
        "histories_of": "(forest)",
        "first_history": "(forest, *begun)",
        "last_history": "(forest, *begun)",
        "next_history": "(forest, value)",
        "history_at": "(forest, index)",
        "history_index": "(forest, value)",
        "weights_along": "(forest, value)",
        "free_exchanges": "(forest, value)",
        "history_path": "(forest, first, second)",
        "history_path_holds": "(forest, first, second, value)",
        "each_history": "(forest)",
    },
    "orders": {
        "is_beginning": "(forest, value)",
        "next_vertices": "(forest, beginning)",
        "count_rest": "(forest, beginning)",
        "always_before": "(forest, one, other)",
        "order_pairs": "(forest)",
        "order_certificate": "(forest, one, other)",
        "order_holds": "(forest, one, other, value)",
        "least_time": "(forest, vertex)",
        "greatest_time": "(forest, vertex)",
        "early_history": "(forest, vertex)",
        "late_history": "(forest, vertex)",
        "walk_beginnings": "(forest, *first, steps=None)",
        "merged_beginning": "(forest, *beginnings, complete=False)",
    },
}
GENERATORS = ("states_along", "each_history", "walk_beginnings")
ROWS = [(module, name, wanted) for module, names in SIGNATURES.items() for name, wanted in names.items()]


class InterfaceTest(unittest.TestCase):
    def test_functions_take_their_arguments(self):
        for module, name, wanted in ROWS:
            with self.subTest(module=module, name=name):
                function = getattr(importlib.import_module(f"linkforests.{module}"), name)
                self.assertTrue(inspect.isfunction(function))
                self.assertEqual(function.__module__, f"linkforests.{module}")
                self.assertEqual(str(inspect.signature(function)), wanted)

    def test_generators(self):
        for module, name, wanted in ROWS:
            with self.subTest(module=module, name=name):
                function = getattr(importlib.import_module(f"linkforests.{module}"), name)
                self.assertIs(inspect.isgeneratorfunction(function), name in GENERATORS)


if __name__ == "__main__":
    unittest.main()
