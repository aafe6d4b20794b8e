"""The names of the interface: each in its file, with its arguments."""

import importlib
import inspect
import unittest

FUNCTIONS = {
    "jointhands.talks": {
        "check_table": ["table"],
        "check_talk": ["talk", "table"],
        "hold_talk": ["talk", "inputs", "coins"],
        "flaw_of": ["talk", "table"],
        "check_flaw": ["talk", "table", "flaw"],
        "two_sides": ["people_talk", "sizes", "group"],
    },
    "jointhands.knots": {
        "knot_of": ["table"],
        "talk_for": ["table"],
        "last_part": ["table", "inputs"],
        "check_knot": ["table", "knot"],
    },
}
ERRORS = ["JointError", "BadStructure", "BadModulus", "BadInputs", "BadCoins", "BadGroup", "BadLies", "BadTurn",
          "BadTalk", "BadTable", "BadProgram", "BadText"]


class Interface(unittest.TestCase):
    def test_functions_stand_in_their_files_with_their_arguments(self):
        for module_name, functions in FUNCTIONS.items():
            module = importlib.import_module(module_name)
            for name, arguments in functions.items():
                with self.subTest(f"{module_name}.{name}"):
                    function = getattr(module, name)
                    self.assertTrue(inspect.isfunction(function))
                    self.assertEqual(function.__module__, module_name)
                    self.assertEqual(list(inspect.signature(function).parameters), arguments)

    def test_errors_stand_in_their_file(self):
        module = importlib.import_module("jointhands.errors")
        for name in ERRORS:
            with self.subTest(name):
                self.assertTrue(inspect.isclass(getattr(module, name)))
                self.assertEqual(getattr(module, name).__module__, "jointhands.errors")


if __name__ == "__main__":
    unittest.main()
