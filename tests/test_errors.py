"""jointhands/errors.py."""

import unittest

from jointhands import errors

PLAIN = ["BadStructure", "BadModulus", "BadInputs", "BadCoins", "BadGroup", "BadLies", "BadTurn", "BadTalk", "BadTable"]
NUMBERED = [("BadProgram", "row"), ("BadText", "place")]


class Errors(unittest.TestCase):
    def test_joint_error_is_a_value_error(self):
        self.assertEqual(errors.JointError.__bases__, (ValueError,))

    def test_all_errors_are_directly_under_joint_error(self):
        for name in PLAIN + [name for name, _ in NUMBERED]:
            with self.subTest(name):
                self.assertEqual(getattr(errors, name).__bases__, (errors.JointError,))

    def test_all_errors_are_joint_errors_and_value_errors(self):
        for name in PLAIN:
            for base in (errors.JointError, ValueError, getattr(errors, name)):
                with self.subTest(name), self.assertRaises(base):
                    raise getattr(errors, name)("what is wrong")

    def test_the_errors_with_a_number(self):
        for name, attribute in NUMBERED:
            for number in (0, 3, 400):
                with self.subTest(name, number=number):
                    error = getattr(errors, name)(number)
                    self.assertIsInstance(error, errors.JointError)
                    self.assertIsInstance(error, ValueError)
                    self.assertIs(type(getattr(error, attribute)), int)
                    self.assertEqual(getattr(error, attribute), number)

    def test_the_errors_with_a_number_take_nothing_else(self):
        for name, _ in NUMBERED:
            for given in ((), (3, 4)):
                with self.subTest(name, given=given), self.assertRaises(TypeError):
                    getattr(errors, name)(*given)

    def test_no_error_is_another_one(self):
        classes = [getattr(errors, name) for name in PLAIN + [name for name, _ in NUMBERED]]
        for one in classes:
            for other in classes:
                self.assertEqual(issubclass(one, other), one is other)


if __name__ == "__main__":
    unittest.main()
