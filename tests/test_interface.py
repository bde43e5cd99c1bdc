"""The names of the interface: where they are defined, and their arguments."""

import importlib
import inspect
import unittest

FUNCTIONS = {
    "costpapers.ratios": {
        "plus": ["one", "other"], "times": ["one", "other"], "over": ["one", "other"], "compare": ["one", "other"],
    },
    "costpapers.tasks": {
        "size": ["task"], "is_plan": ["task", "plan"], "cost": ["task", "plan"], "tight": ["task", "plan"],
        "broken": ["task", "plan"], "plain": ["task"], "negated": ["task"], "with_row": ["task", "row"],
        "without_row": ["task", "index"],
    },
}


class InterfaceTest(unittest.TestCase):
    def test_functions(self):
        for module, functions in FUNCTIONS.items():
            for name, parameters in functions.items():
                function = getattr(importlib.import_module(module), name)
                self.assertEqual(function.__module__, module, name)
                self.assertEqual(list(inspect.signature(function).parameters), parameters, name)
