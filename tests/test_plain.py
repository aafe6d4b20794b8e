"""[11] and [12]: the modulus, the inputs, and plain."""

import random
import unittest

from jointhands.errors import BadInputs, BadModulus, BadProgram
from jointhands.programs import plain
from tests.helpers import no_integers, strangers
from tests.runs import drawn_program, plain_by_hand, puts_of

PROGRAM = (("put", 2), ("number", -5), ("put", 1), ("add", 0, 2), ("less", 0, 2), ("times", 0, 2), ("tell", 5, (1, 2)),
           ("scale", -3, 2), ("tell", 4, (3,)), ("times", 7, 7))
NO_MODULI = [1, 0, -1, -2, -7, 1000001, 10 ** 9, 10 ** 5000, -10 ** 5000]


class Plain(unittest.TestCase):
    def check(self, program, inputs, m, expected):
        for given in (list(inputs), tuple(inputs)):
            found = plain(program, given, m)
            self.assertEqual(repr(found), repr(expected))

    def test_by_hand(self):
        self.check(PROGRAM, (6, 4), 10, [6, 5, 4, 0, 2, 4, 4, 8, 2, 4])
        self.check(PROGRAM, (4, 6), 10, [4, 5, 6, 0, 8, 4, 4, 2, 8, 4])
        self.check(PROGRAM, (1, 1), 2, [1, 1, 1, 0, 0, 1, 1, 1, 0, 1])
        self.check(PROGRAM, (999999, 2), 1000000, [999999, 999995, 2, 1, 999997, 999998, 999998, 999994, 999997, 36])
        self.check((("number", 7),), (), 7, [0])
        self.check((("put", 8), ("tell", 0, (1, 8))), (6,), 7, [6, 6])

    def test_remainders_of_negative_and_great_numbers(self):
        for m in (2, 3, 97, 999983, 1000000):
            for c in (0, 1, -1, m, -m, m - 1, 1 - m, m + 1, 10 ** 60 - 1, 1 - 10 ** 60, 10 ** 59 + 7, -10 ** 40):
                program = (("number", c), ("put", 1), ("scale", c, 1), ("scale", c, 0), ("times", 0, 0), ("less", 1, 0),
                           ("tell", 0, (1,)), ("tell", 2, (1,)))
                x = m - 1
                self.check(program, (x,), m, [number % m for number in (c, x, c * x, c * c, c * c, x - c, c, c * x)])

    def test_drawn_programs(self):
        rng = random.Random(12)
        for m in (2, 3, 4, 5, 6, 7, 10, 100, 256, 65537, 999999, 1000000):
            for _ in range(25):
                program = drawn_program(rng, 8, rng.randrange(1, 40))
                inputs = [rng.choice((0, 1, m - 1, rng.randrange(m))) for _ in puts_of(program)]
                self.check(program, inputs, m, plain_by_hand(program, inputs, m))

    def test_long_programs(self):
        program = (("put", 1),) + tuple(("times", at, at) for at in range(399))
        self.check(program, (3,), 1000000, [pow(3, 2 ** at, 1000000) for at in range(400)])

    def refused(self, error, program, inputs, m):
        with self.assertRaises(error) as caught:
            plain(program, inputs, m)
        self.assertIs(type(caught.exception), error)
        return caught.exception

    def test_moduli(self):
        program = (("put", 1),)
        for m in (2, 3, 999999, 1000000):
            self.check(program, (1,), m, [1])
        for m in NO_MODULI:
            self.refused(BadModulus, program, (0,), m)
        for m in no_integers() + [other for other in strangers() if type(other) is not int] + [2.0, 5.0, "5"]:
            self.refused(BadModulus, program, (0,), m)

    def test_programs(self):
        for other in strangers():
            self.assertEqual(self.refused(BadProgram, other, (), 5).row, 0)
            self.assertEqual(self.refused(BadProgram, PROGRAM + (other,), (1, 2), 5).row, 10)
        for program, row in (((("put", 9),), 0), ((("put", 1), ("put", 0)), 1), ((("put", 8), ("tell", 0, (8, 9))), 1),
                             ((("put", 1),) * 401, 400), (list(PROGRAM), 0), ((), 0)):
            self.assertEqual(self.refused(BadProgram, program, (1, 2), 5).row, row)
        self.check((("put", 8), ("tell", 0, (1, 2, 3, 4, 5, 6, 7, 8))), (3,), 5, [3, 3])

    def test_inputs(self):
        for inputs in ((), (1,), (1, 2, 3), (1, 2, 3, 4), (-1, 2), (1, -1), (5, 2), (1, 5), (1, 6), (10 ** 5000, 1),
                       (1, -10 ** 5000), ((1, 2),), ((1,), (2,))):
            self.refused(BadInputs, PROGRAM, inputs, 5)
            self.refused(BadInputs, PROGRAM, list(inputs), 5)
        for other in no_integers():
            for inputs in ((other, 1), (1, other), [other, 1], [1, other]):
                self.refused(BadInputs, PROGRAM, inputs, 5)
        for other in strangers() + ["12", b"\x01\x02", {1: 0, 2: 0}, {1, 2}, range(1, 3), iter([1, 2]), bytearray(2)]:
            self.refused(BadInputs, PROGRAM, other, 5)

    def test_the_greatest_inputs(self):
        for m in (2, 5, 1000000):
            self.check((("put", 1), ("put", 1)), (m - 1, 0), m, [m - 1, 0])
            self.refused(BadInputs, (("put", 1), ("put", 1)), (m, 0), m)

    def test_inputs_of_a_program_without_put(self):
        program = (("number", 4),)
        self.check(program, (), 5, [4])
        for inputs in ((1,), [0], None, "", {}, b"", range(0), set(), 0):
            self.refused(BadInputs, program, inputs, 5)

    def test_the_order_of_the_looks(self):
        wrong = [(BadModulus, 1, 2), (BadProgram, (("put", 9),), PROGRAM), (BadInputs, (1,), (1, 2))]
        for pattern in range(1, 8):
            told = [errors[1] if pattern >> at & 1 else errors[2] for at, errors in enumerate(wrong)]
            first = min(at for at in range(3) if pattern >> at & 1)
            self.refused(wrong[first][0], told[1], told[2], told[0])

    def test_the_list_belongs_to_the_caller(self):
        first = plain(PROGRAM, (6, 4), 10)
        written = list(first)
        first[:] = [99]
        self.assertEqual(plain(PROGRAM, (6, 4), 10), written)

    def test_inputs_stay_as_they_are_and_may_be_modified_afterwards(self):
        inputs = [6, 4]
        found = plain(PROGRAM, inputs, 10)
        self.assertEqual(inputs, [6, 4])
        written = list(found)
        inputs[:] = [0]
        self.assertEqual(found, written)
        self.assertIsNot(found, inputs)
        only_puts = [1, 2]
        found = plain((("put", 1), ("put", 2)), only_puts, 10)
        only_puts.append(3)
        self.assertEqual(found, [1, 2])


if __name__ == "__main__":
    unittest.main()
