"""[22]: the programs of tables."""

import itertools
import random
import unittest

from jointhands.errors import BadModulus, BadTable
from jointhands.quiet import run_quiet
from jointhands.tables import program_of
from tests.helpers import no_integers, plain_kinds, strangers, within
from tests.runs import coins_taken, plain_by_hand, wrong_row

# (m, k) with m to the power of k at most 49.
SIZES = [(2, 1), (2, 2), (2, 3), (3, 1), (3, 2), (3, 3), (5, 1), (5, 2), (7, 1), (7, 2)]
NO_MODULI = [1, 0, -1, -2, -3, 4, 6, 8, 9, 10, 11, 13, 49, 10 ** 5000]


class ProgramOf(unittest.TestCase):
    def check(self, table, people, m):
        program = program_of(table, people, m)
        told = f"{table} {people} {m}"
        self.assertIsNone(wrong_row(program, 8), told)
        self.assertTrue(plain_kinds(program))
        self.assertLessEqual(len(program), 400)
        self.assertEqual([row[1] for row in program if row[0] == "put"], list(people), told)
        self.assertEqual([at for at, row in enumerate(program) if row[0] == "tell"], [len(program) - 1], told)
        self.assertEqual(program[-1][2], tuple(sorted(set(people))), told)
        for at, inputs in enumerate(itertools.product(range(m), repeat=len(people))):
            self.assertEqual(plain_by_hand(program, inputs, m)[-1], table[at], told)
        return program

    def people_for(self, rng, many):
        return rng.choice((tuple, list))([rng.randrange(1, 9) for _ in range(many)])

    def test_the_order_of_the_inputs(self):
        # x1 less x2 by 3, and x1 alone.
        self.check((0, 2, 1, 1, 0, 2, 2, 1, 0), (5, 2), 3)
        self.check((0, 0, 0, 0, 1, 1, 1, 1), (8, 1, 4), 2)
        self.check((3, 1, 4, 1, 0), (7,), 5)

    def test_all_tables_for_two(self):
        rng = random.Random(22)
        for many in (1, 2, 3):
            for table in itertools.product((0, 1), repeat=2 ** many):
                self.check(table, self.people_for(rng, many), 2)

    def test_all_tables_of_one_for_three(self):
        for table in itertools.product(range(3), repeat=3):
            self.check(table, (4,), 3)

    def test_drawn_tables(self):
        rng = random.Random(23)
        with within(900):
            for m, many in SIZES:
                for _ in range(80):
                    numbers = rng.choice((range(m), (0, 1), (0, 0, 0, 0, m - 1)))
                    table = tuple(rng.choice(numbers) for _ in range(m ** many))
                    self.check(table, self.people_for(rng, many), m)

    def test_tables_of_one_number_and_with_one_other_number(self):
        for m, many in SIZES:
            for number in range(m):
                table = (number,) * m ** many
                self.check(table, (1, 2, 3)[:many], m)
                for at in (0, len(table) // 2, len(table) - 1):
                    self.check(table[:at] + ((number + 1) % m,) + table[at + 1:], (3, 2, 1)[:many], m)

    def test_people_in_any_order_and_more_than_once(self):
        rng = random.Random(24)
        for many in (1, 2, 3):
            for people in itertools.product((1, 4, 8), repeat=many):
                table = tuple(rng.randrange(3) for _ in range(3 ** many))
                self.assertEqual(self.check(table, people, 3), self.check(table, list(people), 3))

    def test_it_can_be_run(self):
        rng = random.Random(25)
        structure = ("structure", 4, ((1, 2), (3,)))
        for m, many in SIZES:
            people = tuple(rng.sample((1, 2, 3, 4), many))
            table = tuple(rng.randrange(m) for _ in range(m ** many))
            program = program_of(table, people, m)
            coins = [rng.randrange(m) for _ in range(coins_taken(structure, program))]
            for at, inputs in enumerate(itertools.product(range(m), repeat=many)):
                told = run_quiet(structure, m, program, inputs, coins).told
                self.assertEqual(told, [(len(program) - 1, person, table[at]) for person in sorted(people)])


class Refused(unittest.TestCase):
    def refused(self, error, table, people, m):
        with self.assertRaises(error) as caught:
            program_of(table, people, m)
        self.assertIs(type(caught.exception), error)

    def test_moduli(self):
        others = [other for other in strangers() if type(other) is not int or other not in (2, 3, 5, 7)]
        for m in NO_MODULI + no_integers() + others + [2.0, 5.0, "2", (2,)]:
            self.refused(BadModulus, (0, 1), (1,), m)
            self.refused(BadModulus, None, None, m)
            self.refused(BadModulus, (), (9,), m)

    def test_tables(self):
        for table in [(), (0,), (0, 1), (0, 1, 1), (0, 1, 1, 0, 1), (0, 1) * 4, [0, 1, 1, 0], "0110", b"\x00\x01\x01\x00",
                      (0, 1, 1, 2), (2, 1, 1, 0), (0, -1, 1, 0), ((0, 1), (1, 0)), {0: 0, 1: 1, 2: 1, 3: 0}, range(4),
                      (0, 1, 1, 10 ** 5000)] + strangers():
            self.refused(BadTable, table, (1, 2), 2)
        for other in no_integers():
            for at in range(4):
                self.refused(BadTable, (0, 1, 1, 0)[:at] + (other,) + (0, 1, 1, 0)[at + 1:], (1, 2), 2)

    def test_sizes(self):
        for m, many in itertools.product((2, 3, 5, 7), (1, 2, 3, 4)):
            people = (1, 2, 3, 4)[:many]
            if (m, many) in SIZES:
                self.assertEqual(program_of((1,) * m ** many, people, m)[-1][2], people)
                for size in (0, m ** many - 1, m ** many + 1, m ** many * m):
                    self.refused(BadTable, (1,) * size, people, m)
            else:
                # Too many people, or more than 49 numbers.
                self.refused(BadTable, (1,) * m ** many, people, m)
                self.refused(BadTable, (1,) * 49, people, m)

    def test_people(self):
        for people in [(), [], (1, 2, 3, 4), (0,), (9,), (-1,), (1, 9), (0, 1), (1, 2, 9), [9], 1, None, "1", {1}, {1: 2}, range(1, 2),
                       iter((1,)), (10 ** 5000,), ((1,),)] + strangers():
            for table in ((0, 1), (0, 1, 1, 0), (0, 1) * 4, (0, 1) * 8, (0,), ()):
                self.refused(BadTable, table, people, 2)
        for other in no_integers():
            self.refused(BadTable, (0, 1), (other,), 2)
            self.refused(BadTable, (0, 1, 1, 0), [other, 1], 2)
            self.refused(BadTable, (0, 1, 1, 0), (8, other), 2)


if __name__ == "__main__":
    unittest.main()
