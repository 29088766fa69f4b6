"""Tests of [3] and [135]: the names and arguments exist as the document writes them."""

import importlib
import inspect
import unittest

from linkforests.joiners import CountedJoiner, Joiner

SIGNATURES = {
    "forests": {
        "is_forest": "(value)",
        "forest_error": "(value)",
        "single": "(n)",
        "roots": "(forest)",
        "children_of": "(forest, vertex)",
        "weights": "(forest)",
        "path_of": "(forest, vertex)",
        "tree_of": "(forest, vertex)",
        "renamed": "(forest, names)",
    },
    "builds": {
        "possible_joins": "(forest)",
        "after_join": "(forest, child, parent)",
        "run_joins": "(n, joins)",
        "heavy_children": "(forest)",
        "is_built": "(forest)",
        "certificate": "(forest)",
        "certificate_holds": "(forest, value)",
        "joins_of": "(forest, history)",
        "beside": "(*forests)",
        "states_along": "(forest, history)",
    },
    "histories": {
        "is_history": "(forest, value)",
        "count_child_orders": "(forest, vertex)",
        "count_tree_histories": "(forest, vertex)",
        "count_histories": "(forest)",
        "histories_of": "(forest)",
        "first_history": "(forest, *begun)",
        "last_history": "(forest, *begun)",
        "next_history": "(forest, value)",
        "history_at": "(forest, index)",
        "history_index": "(forest, value)",
        "weights_along": "(forest, value)",
        "free_exchanges": "(forest, value)",
        "history_path": "(forest, first, second)",
        "history_path_holds": "(forest, first, second, value)",
        "each_history": "(forest)",
    },
    "orders": {
        "is_beginning": "(forest, value)",
        "next_vertices": "(forest, beginning)",
        "count_rest": "(forest, beginning)",
        "always_before": "(forest, one, other)",
        "order_pairs": "(forest)",
        "order_certificate": "(forest, one, other)",
        "order_holds": "(forest, one, other, value)",
        "least_time": "(forest, vertex)",
        "greatest_time": "(forest, vertex)",
        "early_history": "(forest, vertex)",
        "late_history": "(forest, vertex)",
        "walk_beginnings": "(forest, *first, steps=None)",
        "merged_beginning": "(forest, *beginnings, complete=False)",
    },
    "growth": {
        "left_vertices": "(one, other)",
        "obstacles": "(one, other)",
        "grows_from": "(other, one)",
        "growth_certificate": "(one, other)",
        "growth_holds": "(one, other, value)",
        "next_joins": "(one, other)",
        "count_growths": "(one, other)",
        "growth_at": "(one, other, index)",
        "growth_index": "(one, other, value)",
        "walk_growths": "(one, other)",
        "count_starts": "(forest)",
        "starts_of": "(forest)",
        "merge_starts": "(forest, *starts)",
        "common_start": "(*forests)",
    },
    "depths": {
        "depths": "(forest)",
        "vertex_heights": "(forest)",
        "total_depth": "(forest)",
        "thin_vertices": "(forest)",
        "greatest_height": "(n)",
        "greatest_total_depth": "(n)",
        "deepest_forest": "(n)",
        "tree_with_height": "(n, height)",
        "tree_with_total_depth": "(n, total)",
        "doubling_height": "(forest)",
    },
    "shapes": {
        "is_shape": "(value)",
        "shape_weight": "(value)",
        "shape_of": "(forest, vertex)",
        "shapes_of": "(forest)",
        "is_built_shape": "(value)",
        "forest_of": "(value)",
        "count_shapes": "(n)",
        "count_forest_shapes": "(n)",
        "shapes_with": "(n)",
        "shape_at": "(n, index)",
        "shape_index": "(value)",
        "count_labellings": "(value)",
        "count_built_trees": "(n)",
        "count_built_forests": "(n)",
        "walk_shapes": "(n, *, skip=0)",
        "root_over": "(*shapes)",
    },
    "ranks": {
        "heights": "(forest)",
        "gaps": "(forest)",
        "is_ranked": "(forest)",
        "is_rank_history": "(forest, value)",
        "rank_certificate": "(forest)",
        "rank_certificate_holds": "(forest, value)",
        "count_rank_histories": "(forest)",
        "run_rank_joins": "(n, joins)",
    },
    "texts": {
        "forest_text": "(forest)",
        "parse_forest": "(value)",
        "vertices_text": "(vertices)",
        "parse_vertices": "(value)",
        "certificate_text": "(certificate)",
        "parse_certificate": "(value)",
    },
}
GENERATORS = ("states_along", "each_history", "walk_beginnings", "walk_growths", "walk_shapes")
# For each class: its arguments, its methods, its class methods, its properties and its class values.
CLASSES = {
    ("growth", "Way"): {
        "arguments": "(one, other)",
        "methods": {"join": "(self, vertex)", "go_to": "(self, forest)", "__len__": "(self)"},
        "class methods": {"of": "(other)"},
        "properties": ("at", "left", "choices"),
        "values": {"KINDS": ("apart", "closed", "heavy")},
    },
    ("joiners", "Joiner"): {
        "arguments": "(n, *, bound=60)",
        "methods": {
            "set_bound": "(self, value)", "join": "(self, one, other)", "grow": "(self)",
            "join_all": "(self, *vertices)", "undo": "(self)", "forest": "(self, *, version=None)",
            "find": "(self, vertex)", "weight": "(self, vertex)", "walk": "(self, vertex)", "joins": "(self)",
            "actions": "(self)", "apply": "(self, batch, *, on_step=None)", "copy": "(self)", "__len__": "(self)",
            "__eq__": "(self, other)", "__str__": "(self)",
        },
        "class methods": {"of": "(forest)"},
        "properties": ("bound", "trees"),
        "values": {"LIMIT": 60},
    },
    ("joiners", "CountedJoiner"): {
        "arguments": "(n, *, bound=60)",
        "methods": {"__str__": "(self)"},
        "class methods": {},
        "properties": ("steps",),
        "values": {},
    },
    ("shells", "Shell"): {
        "arguments": "(joiner)",
        "methods": {"execute": "(self, value)", "transcript": "(self)"},
        "class methods": {"fed": "(joiner, *lines)"},
        "properties": ("last",),
        "values": {"WORDS": ("join", "undo", "forest", "find", "weight", "build", "count", "first")},
    },
}
ROWS = [(module, name, wanted) for module, names in SIGNATURES.items() for name, wanted in names.items()]


class InterfaceTest(unittest.TestCase):
    def test_functions_take_their_arguments(self):
        for module, name, wanted in ROWS:
            with self.subTest(module=module, name=name):
                function = getattr(importlib.import_module(f"linkforests.{module}"), name)
                self.assertTrue(inspect.isfunction(function))
                self.assertEqual(function.__module__, f"linkforests.{module}")
                self.assertEqual(str(inspect.signature(function)), wanted)

    def test_generators(self):
        for module, name, wanted in ROWS:
            with self.subTest(module=module, name=name):
                function = getattr(importlib.import_module(f"linkforests.{module}"), name)
                self.assertIs(inspect.isgeneratorfunction(function), name in GENERATORS)


class ClassesTest(unittest.TestCase):
    """Each name stands in the class itself, not only in a base class."""

    def check_classes(self, check):
        for (module, name), wanted in CLASSES.items():
            with self.subTest(module=module, name=name):
                check(getattr(importlib.import_module(f"linkforests.{module}"), name), wanted)

    def test_arguments(self):
        def check(found, wanted):
            self.assertTrue(inspect.isclass(found))
            self.assertEqual(str(inspect.signature(found)), wanted["arguments"])
        self.check_classes(check)

    def test_methods(self):
        def check(found, wanted):
            for name, arguments in wanted["methods"].items():
                self.assertTrue(inspect.isfunction(vars(found)[name]), name)
                self.assertEqual(str(inspect.signature(vars(found)[name])), arguments, name)
                self.assertIs(inspect.isgeneratorfunction(vars(found)[name]), name == "walk")
        self.check_classes(check)

    def test_class_methods(self):
        def check(found, wanted):
            for name, arguments in wanted["class methods"].items():
                self.assertIsInstance(vars(found)[name], classmethod)
                self.assertEqual(str(inspect.signature(getattr(found, name))), arguments)
        self.check_classes(check)

    def test_properties_can_only_be_read(self):
        def check(found, wanted):
            for name in wanted["properties"]:
                self.assertIsInstance(vars(found)[name], property)
                self.assertIsNone(vars(found)[name].fset)
        self.check_classes(check)

    def test_a_counted_joiner_is_a_joiner(self):
        self.assertEqual(CountedJoiner.__bases__, (Joiner,))

    def test_class_values(self):
        def check(found, wanted):
            for name, value in wanted["values"].items():
                self.assertEqual(repr(vars(found)[name]), repr(value))
        self.check_classes(check)


if __name__ == "__main__":
    unittest.main()
