"""[3] and check_table."""

import unittest

from jointhands.errors import BadTable
from jointhands.talks import check_table
from tests.helpers import all_alike, no_integers, strangers


class CheckTable(unittest.TestCase):
    def refused(self, table):
        with self.assertRaises(BadTable):
            check_table(table)

    def test_tables_of_all_sizes_are_let(self):
        for x, y in ((1, 1), (1, 2), (2, 1), (3, 2), (99, 100), (1, 100), (100, 1), (100, 99), (100, 100)):
            with self.subTest(x=x, y=y):
                self.assertIsNone(check_table(all_alike(x, y)))

    def test_no_rows_and_no_columns(self):
        for table in ((), ((),), ((), ()), ((),) * 100):
            with self.subTest(table=table):
                self.refused(table)

    def test_more_than_100_rows_or_columns(self):
        for x, y in ((101, 1), (1, 101), (101, 100), (100, 101), (101, 101), (5000, 2)):
            with self.subTest(x=x, y=y):
                self.refused(all_alike(x, y))

    def test_rows_of_unlike_lengths(self):
        for table in (((1, 2), (3,)), ((1,), (2, 3)), ((1, 2), (3, 4), (5,)), ((1, 2), (), (3, 4)), ((), (1,)),
                      ((1, 2), (3, 4), (5, 6, 7)), ((0,) * 100,) * 99 + ((0,) * 99,), ((0,),) * 99 + ((0,) * 2,)):
            with self.subTest(table=table):
                self.refused(table)

    def test_lists_for_tuples(self):
        for table in ([(1, 2)], [[1, 2]], ([1, 2],), ([1], (2,)), ((1,), [2]), ((1,), (2,), [3]), [], ([],)):
            with self.subTest(table=table):
                self.refused(table)

    def test_answers_of_any_size(self):
        for answer in (0, 1, -1, -7, 2 ** 31, 2 ** 64, -2 ** 64, 10 ** 5000, -10 ** 5000):
            self.assertIsNone(check_table(((answer,),)))
            self.assertIsNone(check_table(((0, answer), (answer, -answer))))

    def test_refused_beside_answers_of_any_size(self):
        huge = 10 ** 5000
        self.refused(((huge, -huge), (huge,)))
        self.refused(((huge, -huge), (huge, None)))
        self.refused(((huge,),) * 101)
        self.refused((huge,))

    def test_what_is_no_integer_in_the_place_of_an_answer(self):
        for answer in no_integers():
            for x in range(3):
                for y in range(2):
                    with self.subTest(answer=repr(answer), x=x, y=y):
                        rows = [[4, 5], [6, 7], [8, 9]]
                        rows[x][y] = answer
                        self.refused(tuple(tuple(row) for row in rows))

    def test_one_wrong_answer_in_a_large_table(self):
        for x, y in ((0, 0), (0, 99), (99, 0), (99, 99), (57, 31)):
            for answer in (True, False, None, "word"):
                with self.subTest(x=x, y=y, answer=answer):
                    rows = [[1] * 100 for _ in range(100)]
                    rows[x][y] = answer
                    self.refused(tuple(tuple(row) for row in rows))

    def test_whatever_else_raises_bad_table_alone(self):
        for at, table in enumerate(strangers()):
            with self.subTest(at=at):
                self.refused(table)

    def test_whatever_else_for_a_row(self):
        for at in range(len(strangers())):
            with self.subTest(at=at):
                self.refused((strangers()[at],))
                self.refused(((1,), strangers()[at]))
                self.refused((strangers()[at], (1,)))
                self.refused((strangers()[at],) * 100)

    def test_tuples_that_are_nested_too_deep(self):
        deep = 0
        for _ in range(100000):
            deep = (deep,)
        self.refused(deep)
        self.refused(((0, deep),))
        self.refused((((0,),),))


if __name__ == "__main__":
    unittest.main()
