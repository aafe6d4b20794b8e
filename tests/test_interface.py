"""The names of the interface: each in its file, with its arguments."""

import importlib
import inspect
import unittest

FUNCTIONS = {
    "jointhands.talks": {
        "check_table": ["table"],
        "check_talk": ["talk", "table"],
        "hold_talk": ["talk", "inputs", "coins"],
        "flaw_of": ["talk", "table"],
        "check_flaw": ["talk", "table", "flaw"],
        "two_sides": ["people_talk", "sizes", "group"],
    },
    "jointhands.knots": {
        "knot_of": ["table"],
        "talk_for": ["table"],
        "last_part": ["table", "inputs"],
        "check_knot": ["table", "knot"],
    },
    "jointhands.structures": {
        "check_structure": ["structure"],
        "threshold": ["n", "t"],
        "two_groups": ["structure"],
        "three_groups": ["structure"],
        "holders": ["structure", "part"],
        "is_allowed": ["structure", "people"],
    },
    "jointhands.programs": {
        "check_program": ["program", "n"],
        "plain": ["program", "inputs", "m"],
        "read_program": ["text"],
        "write_program": ["program"],
    },
    "jointhands.quiet": {
        "run_quiet": ["structure", "m", "program", "inputs", "coins"],
        "view_quiet": ["run", "program", "inputs", "group"],
    },
    "jointhands.loud": {
        "run_loud": ["structure", "m", "program", "inputs", "coins", "liars", "lies"],
        "attack": ["structure"],
        "view_loud": ["run", "program", "inputs", "group"],
    },
    "jointhands.turning": {
        "turned": ["structure", "m", "program", "inputs", "others", "coins", "group"],
        "turned_loud": ["structure", "m", "program", "inputs", "others", "coins", "group", "liars", "lies"],
        "made_view": ["structure", "m", "program", "inputs", "values", "coins", "group"],
    },
    "jointhands.tables": {
        "program_of": ["table", "people", "m"],
    },
    "jointhands.learning": {
        "learned": ["structure", "m", "program", "inputs", "group"],
        "quiet_costs": ["structure", "program"],
        "loud_costs": ["structure", "program"],
    },
}
CLASSES = {
    "jointhands.quiet": ["QuietRun"],
    "jointhands.loud": ["LoudRun"],
}
ERRORS = ["JointError", "BadStructure", "BadModulus", "BadInputs", "BadCoins", "BadGroup", "BadLies", "BadTurn",
          "BadTalk", "BadTable", "BadProgram", "BadText"]


class Interface(unittest.TestCase):
    def test_functions_stand_in_their_files_with_their_arguments(self):
        for module_name, functions in FUNCTIONS.items():
            module = importlib.import_module(module_name)
            for name, arguments in functions.items():
                with self.subTest(f"{module_name}.{name}"):
                    function = getattr(module, name)
                    self.assertTrue(inspect.isfunction(function))
                    self.assertEqual(function.__module__, module_name)
                    self.assertEqual(list(inspect.signature(function).parameters), arguments)

    def test_classes_stand_in_their_files(self):
        for module_name, names in CLASSES.items():
            for name in names:
                with self.subTest(f"{module_name}.{name}"):
                    found = getattr(importlib.import_module(module_name), name)
                    self.assertTrue(inspect.isclass(found))
                    self.assertEqual(found.__module__, module_name)

    def test_runs_have_their_attributes(self):
        quiet, loud = [importlib.import_module(f"jointhands.{name}") for name in ("quiet", "loud")]
        run = quiet.run_quiet(("structure", 2, ((1,),)), 2, (("number", 1),), (), ())
        self.assertIs(type(run), quiet.QuietRun)
        for name in ("parts", "told", "letters", "taken", "dealt"):
            self.assertIs(type(vars(run)[name]), list)
        run = loud.run_loud(("structure", 2, ((1,),)), 2, (("number", 1),), (), (), (), ())
        self.assertIs(type(run), loud.LoudRun)
        for name in ("told", "letters", "taken", "board", "inputs", "dealt"):
            self.assertIs(type(vars(run)[name]), list)

    def test_errors_stand_in_their_file(self):
        module = importlib.import_module("jointhands.errors")
        for name in ERRORS:
            with self.subTest(name):
                self.assertTrue(inspect.isclass(getattr(module, name)))
                self.assertEqual(getattr(module, name).__module__, "jointhands.errors")


if __name__ == "__main__":
    unittest.main()
