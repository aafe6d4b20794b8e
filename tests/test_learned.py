"""[23]: what a group learns by what it is told."""

import itertools
import random
import unittest

from jointhands.errors import BadGroup, BadInputs, BadModulus, BadProgram, BadStructure
from jointhands.learning import learned
from tests.helpers import no_integers, strangers, within
from tests.runs import QUIET, drawn_program, drawn_structure, plain_by_hand, puts_of, within_greatest

TWO_PARTS = ("structure", 3, ((1,), (2,)))
NOT_QUIET = ("structure", 3, ((1, 2), (2, 3)))
PROGRAM = (("put", 1), ("put", 3), ("times", 0, 1), ("tell", 2, (1, 2)))


def agreeing(m, program, inputs, group):
    """All rows of inputs that agree with the given ones, by the words of [16]."""
    puts = puts_of(program)
    plain = plain_by_hand(program, inputs, m)
    found = []
    for others in itertools.product(range(m), repeat=len(puts)):
        same = all(number == other for at, number, other in zip(puts, inputs, others) if program[at][1] in group)
        other_plain = plain_by_hand(program, others, m)
        told = [at for at, row in enumerate(program) if row[0] == "tell" and set(row[2]) & set(group)]
        if same and all(plain[at] == other_plain[at] for at in told):
            found.append(others)
    return sorted(found)


class Learned(unittest.TestCase):
    def check(self, structure, m, program, inputs, group, expected):
        for given, people in ((list(inputs), list(group)), (tuple(inputs), tuple(group))):
            self.assertEqual(repr(learned(structure, m, program, given, people)), repr(expected))

    def test_by_hand(self):
        # 5 times the other one is 0 by 10: it is even; person 2 knows only the product.
        self.check(TWO_PARTS, 10, PROGRAM, (5, 4), (1,), [(5, 0), (5, 2), (5, 4), (5, 6), (5, 8)])
        self.check(TWO_PARTS, 4, PROGRAM, (3, 3), (2,), [(1, 1), (3, 3)])
        self.check(TWO_PARTS, 2, PROGRAM, (0, 1), (2,), [(0, 0), (0, 1), (1, 0)])
        self.check(TWO_PARTS, 2, PROGRAM, (0, 1), (), [(0, 0), (0, 1), (1, 0), (1, 1)])
        self.check(NOT_QUIET, 2, PROGRAM, (0, 1), (1, 2), [(0, 0), (0, 1)])
        self.check(NOT_QUIET, 2, PROGRAM, (0, 1), (2, 3), [(0, 1)])
        self.check(NOT_QUIET, 3, PROGRAM, (0, 1), (3,), [(0, 1), (1, 1), (2, 1)])

    def test_drawn_programs(self):
        rng = random.Random(23)
        with within(900):
            for structure in QUIET + [drawn_structure(rng) for _ in range(150)]:
                m = rng.choice((2, 3, 4, 7))
                program = drawn_program(rng, structure[1], rng.randrange(1, 12))
                if m ** len(puts_of(program)) <= 800:
                    inputs = [rng.randrange(m) for _ in puts_of(program)]
                    for group in rng.sample(within_greatest(structure), 2):
                        self.check(structure, m, program, inputs, group, agreeing(m, program, inputs, group))

    def test_many_moduli(self):
        for m in (19, 100, 141):
            program = (("put", 2), ("put", 3), ("times", 0, 1), ("tell", 2, (1,)))
            for inputs in ((0, 1), (6, 9), (m - 1, m - 1)):
                for group in ((), (1,), (2,)):
                    self.check(TWO_PARTS, m, program, inputs, group, agreeing(m, program, inputs, group))

    def test_programs_without_inputs(self):
        for m in (2, 1000000):
            self.check(TWO_PARTS, m, (("number", 3), ("tell", 0, (1,))), (), (1,), [()])

    def test_20000_rows_of_inputs(self):
        rows = [(("put", 3),), (("put", 3),) * 2, (("put", 3),) * 14, (("put", 1),) + (("put", 3),) * 13]
        for program, most in ((rows[0], 20000), (rows[1], 141), (rows[2], 2), (rows[3], 2)):
            many = len(program)
            for group in ((), (2,)):
                with within(60):
                    found = learned(TWO_PARTS, most, program, (1,) * many, group)
                self.assertEqual(len(found), most ** many)
                self.assertEqual((found[0], found[-1]), ((0,) * many, (most - 1,) * many))
        for program, m in ((rows[0], 20001), (rows[1], 142), (rows[2], 3), (rows[2] + (("put", 3),), 2),
                           ((("put", 1),) * 400, 1000000)):
            # Also where the inputs of members leave fewer ones.
            for group in ((), (1,), None, (1, 2)):
                self.refused(BadInputs, TWO_PARTS, m, program, (1,) * len(program), group)

    def test_long_programs_with_many_rows_of_inputs(self):
        program = (("put", 3),) + tuple(("times" if at % 2 else "add", at, at) for at in range(398)) + (("tell", 398, (1,)),)
        with within(60):
            found = learned(TWO_PARTS, 20000, program, (7,), (1,))
            value = plain_by_hand(program[:12], (7,), 20000)
        self.assertIn((7,), found)
        self.assertEqual(found, sorted(found))
        self.assertEqual(value[:3], [7, 14, 196])

    def test_the_list_belongs_to_the_caller(self):
        first = learned(TWO_PARTS, 10, PROGRAM, [5, 4], [1])
        written = list(first)
        first.clear()
        self.assertEqual(learned(TWO_PARTS, 10, PROGRAM, [5, 4], [1]), written)

    def refused(self, error, *arguments):
        with self.assertRaises(error) as caught:
            learned(*arguments)
        self.assertIs(type(caught.exception), error)

    def test_groups(self):
        others = [other for other in strangers() if type(other) not in (tuple, list) or len(other) > 0]
        for group in others + [(1, 2), (3,), (1, 1), (0,), (4,), (-1,), (1.0,), "1", {1}, range(1, 2), {1: 1}, (True,), [True]]:
            self.refused(BadGroup, TWO_PARTS, 10, PROGRAM, (5, 4), group)
        self.refused(BadGroup, NOT_QUIET, 10, PROGRAM, (5, 4), (1, 3))
        self.refused(BadGroup, NOT_QUIET, 10, PROGRAM, (5, 4), (2, 1))
        self.refused(BadGroup, NOT_QUIET, 10, PROGRAM, (5, 4), (1, 2, 3))

    def test_the_order_of_the_looks(self):
        self.refused(BadStructure, None, None, None, None, None)
        self.refused(BadModulus, TWO_PARTS, 1, None, None, None)
        self.refused(BadProgram, TWO_PARTS, 20001, (("put", 4),), (1, 1), (1, 2))
        self.refused(BadInputs, TWO_PARTS, 10, PROGRAM, (5,), (1, 2))
        for other in no_integers():
            self.refused(BadInputs, TWO_PARTS, 10, PROGRAM, (5, other), (1, 2))


if __name__ == "__main__":
    unittest.main()
