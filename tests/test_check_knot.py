"""[6]: check_knot."""

import itertools
import random
import unittest

from jointhands.errors import BadTable
from jointhands.knots import check_knot, knot_of
from tests.helpers import all_alike, all_tables, changed_ways, is_a_knot, no_integers, peeled_table, strangers, within

AND = ((0, 0), (0, 1))
# Rows 0 and 2 with columns 0 and 2 are a knot, and so is the whole table; rows 0 and 1 with columns 0 and 1 are even.
TABLE = ((0, 0, 0), (0, 0, 5), (0, 6, 1))
WHOLE = ((0, 1, 2), (0, 1, 2))


def some_of(many):
    """All groups of some of so many numbers, ascending, the empty one too."""
    return [group for size in range(many + 1) for group in itertools.combinations(range(many), size)]


def whole_of(table):
    return (tuple(range(len(table))), tuple(range(len(table[0]))))


class CheckKnot(unittest.TestCase):
    def check(self, knot, expected, table=TABLE):
        found = check_knot(table, knot)
        if found is not expected:
            self.fail(f"{found!r} for {knot!r}")

    def test_by_hand(self):
        self.check(((0, 1), (0, 1)), True, AND)
        self.check(WHOLE, True)
        # Met in the taking apart or not.
        self.check(((0, 2), (0, 2)), True)
        self.check(((0, 1), (0, 2)), True)
        # Even parts, parts of several bundles of rows, of columns, of both.
        self.check(((0, 1), (0, 1)), False)
        self.check(((1,), (0,)), False)
        self.check(((1, 2), (1, 2)), False)
        self.check(((0, 1, 2), (2,)), False)
        self.check(((2,), (0, 1, 2)), False)
        self.check(((0, 1), (0, 1)), False, ((0, 0), (1, 2)))
        self.check(((0, 1), (0, 1)), False, ((0, 1), (0, 2)))

    def test_all_parts_of_all_small_tables(self):
        tables = all_tables(2, 2) + all_tables(2, 3) + all_tables(3, 2) + all_tables(3, 3, 3)[::9]
        tables += all_tables(3, 4, 2)[::60] + all_tables(4, 3, 2)[::60]
        met = other = 0
        for table in tables:
            for rows in some_of(len(table)):
                for columns in some_of(len(table[0])):
                    expected = bool(rows and columns) and is_a_knot(table, rows, columns)
                    self.check((rows, columns), expected, table)
                    if expected:
                        met += knot_of(table) == (rows, columns)
                        other += knot_of(table) != (rows, columns)
        self.assertGreater(met, 100)
        self.assertGreater(other, 100)

    def test_parts_of_random_tables(self):
        rng = random.Random(61)
        for _ in range(200):
            x, y = rng.randrange(2, 7), rng.randrange(2, 7)
            table = tuple(tuple(rng.randrange(6) for _ in range(y)) for _ in range(x))
            for _ in range(20):
                rows = tuple(sorted(rng.sample(range(x), rng.randrange(1, x + 1))))
                columns = tuple(sorted(rng.sample(range(y), rng.randrange(1, y + 1))))
                self.check((rows, columns), is_a_knot(table, rows, columns), table)

    def test_one_thing_changed(self):
        table = tuple(tuple(0 if (row, column) != (3, 3) else 1 for column in range(4)) for row in range(4))
        # Written out, since True, 1.0 and lists are the same as numbers and tuples to Python.
        knots = {repr((rows, columns)) for rows in some_of(4)[1:] for columns in some_of(4)[1:]
                 if is_a_knot(table, rows, columns)}
        for knot in (((0, 1, 2, 3), (0, 1, 2, 3)), ((0, 3), (1, 3)), ((1, 2, 3), (0, 3))):
            self.check(knot, True, table)
            for other in changed_ways(knot):
                self.check(other, repr(other) in knots, table)

    def test_out_of_order_and_twice(self):
        for rows in ((1, 0), (2, 1, 0), (0, 2, 1), (0, 0, 1), (0, 1, 1), (0, 1, 2, 2), (0, 1, 2, 0), (1, 1), (0, 1) * 50):
            self.check((rows, (0, 1, 2)), False)
            self.check(((0, 1, 2), rows), False)

    def test_numbers_that_there_are_not(self):
        for number in (3, 4, 100, 10 ** 5000):
            self.check(((0, 1, 2, number), (0, 1, 2)), False)
            self.check(((0, 1, 2), (0, 1, 2, number)), False)
            self.check(((0, 1, number), (0, 1, 2)), False)
        for number in (-1, -2, -3, -4, -10 ** 5000):
            self.check(((number, 0, 1, 2), (0, 1, 2)), False)
            self.check(((0, 1, 2), (number, 0, 1, 2)), False)
            self.check(((number, 1, 2), (0, 1, 2)), False)
        self.check(((-2, -1), (-2, -1)), False, AND)
        self.check(((-2, -1), (0, 1)), False, AND)
        # Rows and columns have their own numbers.
        table = ((0, 0, 0), (0, 1, 0))
        self.check(((0, 1), (0, 1, 2)), True, table)
        self.check(((0, 1, 2), (0, 1)), False, table)
        self.check(((0, 1), (0, 1, 2)), False, tuple(zip(*table)))
        self.check(((0, 1, 2), (0, 1)), True, tuple(zip(*table)))

    def test_true_false_and_other_kinds(self):
        for number in no_integers():
            for rows in ((number, 2), (0, number), (0, number, 2), (number,)):
                self.check((rows, (0, 1, 2)), False)
                self.check(((0, 1, 2), rows), False)
        self.check(((False, True), (0, 1)), False, AND)
        self.check(((0, 1), (0, True)), False, AND)
        self.check(((0, 1.0), (0, 1)), False, AND)

    def test_lists_for_tuples_and_other_lengths(self):
        rows = (0, 1, 2)
        for knot in ([rows, rows], (list(rows), rows), (rows, list(rows)), (range(3), rows), (rows, range(3)),
                     (rows,), (rows, rows, rows), (rows, rows, ()), rows, (set(rows), rows), (rows, "012"),
                     (dict.fromkeys(rows), rows), (frozenset(rows), rows), iter((rows, rows)), (b"\x00\x01\x02", rows)):
            self.check(knot, False)

    def test_tables_of_one_row_or_column(self):
        for table in (((5,),), ((5, 5, 6),), ((5,), (6,), (5,)), ((5, 6),)):
            for rows in some_of(len(table)):
                for columns in some_of(len(table[0])):
                    self.check((rows, columns), False, table)
            for knot in (None, (), ((0, 1), (0, 1)), ((0,), (0, 1, 2, 3)), ((0, 1, 2, 3), (0,))):
                self.check(knot, False, table)

    def test_empty_ones(self):
        for knot in ((), ((), ()), ((), (0, 1, 2)), ((0, 1, 2), ()), ((0, 1, 2),)):
            self.check(knot, False)

    def test_whatever_else(self):
        for other in strangers():
            self.check(other, False)
            self.check((other, other), False)
            self.check((other, (0, 1, 2)), False)
            self.check(((0, 1, 2), other), False)
            self.check(((0, 1, 2), (other,)), False)

    def test_long_and_large(self):
        with within(120):
            self.check((tuple(range(1000000)), (0, 1, 2)), False)
            table = all_alike(100, 100)
            self.check(whole_of(table), False, table)
            table = table[:-1] + ((0,) * 99 + (1,),)
            self.check(whole_of(table), True, table)
            self.check(whole_of(peeled_table(100)), False, peeled_table(100))

    def test_the_table_is_looked_at_first(self):
        for table in strangers() + [((1, 2), (3,)), ((True,),), [(1,)], all_alike(101, 2)]:
            for knot in (None, ((0, 1), (0, 1))):
                with self.assertRaises(BadTable):
                    check_knot(table, knot)


if __name__ == "__main__":
    unittest.main()
