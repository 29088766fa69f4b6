"""Tests of [3] and [135]: the names and arguments exist as the document writes them."""

import importlib
import inspect
import unittest

FUNCTIONS = {
    "forests": {
        "is_forest": ("value",),
        "forest_error": ("value",),
        "single": ("n",),
        "roots": ("forest",),
        "children_of": ("forest", "vertex"),
        "weights": ("forest",),
        "path_of": ("forest", "vertex"),
        "tree_of": ("forest", "vertex"),
        "renamed": ("forest", "names"),
    },
}
BY_POSITION = inspect.Parameter.POSITIONAL_OR_KEYWORD
ROWS = [(module, name, wanted) for module, names in FUNCTIONS.items() for name, wanted in names.items()]


class InterfaceTest(unittest.TestCase):
    def test_functions_take_their_arguments_by_position(self):
        for module, name, wanted in ROWS:
            with self.subTest(module=module, name=name):
                function = getattr(importlib.import_module(f"linkforests.{module}"), name)
                self.assertTrue(inspect.isfunction(function))
                self.assertEqual(function.__module__, f"linkforests.{module}")
                parameters = inspect.signature(function).parameters
                self.assertEqual(tuple(parameters), wanted)
                self.assertEqual({parameter.kind for parameter in parameters.values()}, {BY_POSITION})
                self.assertEqual({parameter.default for parameter in parameters.values()}, {inspect.Parameter.empty})


if __name__ == "__main__":
    unittest.main()
