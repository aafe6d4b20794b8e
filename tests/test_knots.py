"""[6] and [7]: knot_of, talk_for and last_part."""

import itertools
import random
import unittest

from jointhands.errors import BadTable
from jointhands.knots import check_knot, knot_of, last_part, talk_for
from jointhands.talks import check_talk, flaw_of, hold_talk
from tests.helpers import (all_alike, all_tables, composed_table, parts_that_stay, peeled_table, plain_kinds, strangers,
                           take_apart, within, written_talk)

AND = ((0, 0), (0, 1))
WINDMILL = ((1, 1, 2), (3, 4, 2), (3, 5, 5))


def alone(number, many):
    """The bits that tell whether the input is this number."""
    return tuple((1 if at == number else 0,) for at in range(many))


def end_of(answer, x, y):
    return ("end", ((answer,),) * x, ((answer,),) * y)


class ByHand(unittest.TestCase):
    def test_tables_with_a_knot(self):
        self.assertEqual(knot_of(AND), ((0, 1), (0, 1)))
        self.assertEqual(knot_of(WINDMILL), ((0, 1, 2), (0, 1, 2)))

    def test_tables_without_a_knot(self):
        for table in (((5,),), ((1, 2, 3),), ((1,), (2,), (1,)), ((4, 4), (4, 4)), ((0, 1), (1, 0)), ((0, 0), (1, 2)),
                      ((0, 1), (0, 2)), ((1, 2), (3, 4))):
            with self.subTest(table=table):
                self.assertIsNone(knot_of(table))

    def test_one_answer(self):
        for x, y in ((1, 1), (1, 3), (4, 2), (100, 100)):
            table = all_alike(x, y, -6)
            self.assertIsNone(knot_of(table))
            self.assertEqual(talk_for(table), ("talk", 1, 1, end_of(-6, x, y)))
            self.assertEqual(last_part(table, (x - 1, y - 1)), (tuple(range(x)), tuple(range(y))))

    def test_one_row(self):
        table = ((8, 9, 8, 7),)
        ends = {answer: end_of(answer, 1, 4) for answer in (7, 8, 9)}
        tree = ("say", 1, ((1,), (0,), (1,), (0,)), ("say", 1, ((0,), (1,), (0,), (0,)), ends[7], ends[9]), ends[8])
        self.assertEqual(talk_for(table), ("talk", 1, 1, tree))
        self.assertEqual([last_part(table, (0, y)) for y in range(4)],
                         [((0,), (0, 2)), ((0,), (1,)), ((0,), (0, 2)), ((0,), (3,))])

    def test_one_column(self):
        table = ((8,), (9,), (8,), (7,))
        ends = {answer: end_of(answer, 4, 1) for answer in (7, 8, 9)}
        tree = ("say", 0, ((1,), (0,), (1,), (0,)), ("say", 0, ((0,), (1,), (0,), (0,)), ends[7], ends[9]), ends[8])
        self.assertEqual(talk_for(table), ("talk", 1, 1, tree))
        self.assertEqual([last_part(table, (x, 0)) for x in range(4)],
                         [((0, 2), (0,)), ((1,), (0,)), ((0, 2), (0,)), ((3,), (0,))])

    def test_rows_come_ahead_of_columns(self):
        # Both the rows and the columns are two bundles.
        table = ((1, 2), (3, 4))
        ends = [end_of(answer, 2, 2) for answer in (1, 2, 3, 4)]
        columns = [("say", 1, alone(0, 2), ends[at + 1], ends[at]) for at in (0, 2)]
        self.assertEqual(talk_for(table), ("talk", 1, 1, ("say", 0, alone(0, 2), columns[1], columns[0])))
        self.assertEqual(last_part(table, (1, 0)), ((1,), (0,)))

    def test_rows_and_columns_in_turn(self):
        # Row 1 goes first (bundle of rows 0 and 2, which are tied in column 1), then column 1, then row 0 from 2.
        table = ((1, 7, 1), (5, 5, 5), (2, 7, 2))
        ends = {answer: end_of(answer, 3, 3) for answer in (1, 2, 5, 7)}
        rows = ("say", 0, alone(0, 3), ends[2], ends[1])
        columns = ("say", 1, ((1,), (0,), (1,)), ends[7], rows)
        whole = ("say", 0, ((1,), (0,), (1,)), ends[5], columns)
        self.assertEqual(talk_for(table), ("talk", 1, 1, whole))
        self.assertEqual(last_part(table, (2, 2)), ((2,), (0, 2)))
        self.assertEqual(last_part(table, (0, 1)), ((0, 2), (1,)))
        self.assertEqual(last_part(table, (1, 1)), ((1,), (0, 1, 2)))
        self.assertIsNone(knot_of(table))

    def test_rows_hang_together_along_others(self):
        # Rows 0 and 3 have no answer in common in a column; rows 1 and 2 go between.
        table = ((1, 2, 3), (1, 9, 4), (7, 9, 5), (7, 8, 6))
        self.assertIsNone(knot_of(table))
        self.assertEqual(talk_for(table)[3][1], 1)
        self.assertEqual(last_part(table, (3, 0)), ((2, 3), (0,)))

    def test_same_answers_in_unlike_columns_do_not_tie(self):
        self.assertIsNone(knot_of(((0, 1), (1, 0))))
        self.assertEqual(talk_for(((0, 1), (1, 0))), written_talk(((0, 1), (1, 0))))
        self.assertEqual(last_part(((0, 1), (1, 0)), (1, 1)), ((1,), (1,)))

    def test_the_same_answer_in_several_last_parts(self):
        table = ((0, 1, 0), (1, 0, 1))
        self.assertEqual(last_part(table, (0, 2)), ((0,), (0, 2)))
        self.assertEqual(last_part(table, (1, 1)), ((1,), (1,)))
        self.assertEqual(talk_for(table), written_talk(table))

    def test_the_first_of_several_knots(self):
        # Rows 0 and 2 have a knot in columns 1 and 3, rows 1 and 3 have one in columns 0 and 2.
        table = ((9, 1, 9, 1), (3, 8, 3, 8), (9, 1, 9, 2), (3, 8, 4, 8))
        self.assertEqual(knot_of(table), ((0, 2), (1, 3)))
        self.assertEqual(knot_of(table[1:]), ((0, 2), (0, 2)))
        self.assertTrue(check_knot(table, ((1, 3), (0, 2))))

    def test_all_of_a_bundle_ahead_of_the_next_one(self):
        # Rows 0, 1, 4, 5 are one bundle, rows 2, 3 a knot; in the first bundle a knot comes at its very end.
        first = [[5, 5, 0, 0], [5, 5, 1, 2], [5, 5, 1, 1]]
        second = [[20, 20, 20, 20], [20, 20, 20, 21]]
        table = tuple(map(tuple, first[:1] + second + first[1:]))
        self.assertEqual(knot_of(table), ((3, 4), (2, 3)))

    def test_a_knot_that_is_not_the_whole_table(self):
        table = ((4, 4, 4), (0, 0, 3), (0, 1, 3))
        self.assertEqual(knot_of(table), ((1, 2), (0, 1)))

    def test_huge_answers(self):
        huge = 10 ** 5000
        self.assertEqual(knot_of(((huge, huge), (huge, -huge))), ((0, 1), (0, 1)))
        table = ((huge, huge), (-huge, huge + 1))
        self.assertTrue(talk_for(table) == written_talk(table))
        self.assertEqual(last_part(table, (1, 1)), ((1,), (1,)))


class BySteps(unittest.TestCase):
    """Against a taking apart of the tests' own."""

    def compare(self, table):
        stay = parts_that_stay(take_apart(table))
        knots = [(rows, columns) for kind, rows, columns in stay if kind == "knot"]
        self.assertEqual(knot_of(table), knots[0] if knots else None, table)
        for knot in knots:
            self.assertIs(check_knot(table, knot), True)
        if knots:
            for refused in (lambda: talk_for(table), lambda: last_part(table, (0, 0))):
                with self.assertRaises(BadTable):
                    refused()
        else:
            self.assertEqual(talk_for(table), written_talk(table))
            for _, rows, columns in stay:
                for inputs in {(rows[0], columns[0]), (rows[-1], columns[-1])}:
                    self.assertEqual(last_part(table, inputs), (rows, columns))
        return len(knots)

    def test_all_small_tables(self):
        for x, y, most in ((1, 1, 1), (1, 4, 4), (4, 1, 4), (2, 2, 4), (2, 3, 6), (3, 2, 6), (2, 4, 4), (3, 3, 3)):
            for table in all_tables(x, y, most):
                self.compare(table)

    def test_every_pair_of_inputs_of_small_tables(self):
        for table in all_tables(2, 3) + all_tables(3, 2):
            if knot_of(table) is None:
                for _, rows, columns in parts_that_stay(take_apart(table)):
                    for inputs in itertools.product(rows, columns):
                        self.assertEqual(last_part(table, inputs), (rows, columns))

    def test_tables_that_are_taken_apart_several_times(self):
        rng = random.Random(71)
        for _ in range(250):
            self.assertEqual(self.compare(composed_table(rng, rng.randrange(1, 9), rng.randrange(1, 9), False)), 0)

    def test_tables_with_knots(self):
        rng = random.Random(72)
        many = [self.compare(composed_table(rng, rng.randrange(2, 12), rng.randrange(2, 12), True))
                for _ in range(250)]
        self.assertGreater(len([number for number in many if number > 1]), 30)

    def test_random_tables(self):
        rng = random.Random(73)
        for _ in range(400):
            x, y, answers = rng.randrange(1, 7), rng.randrange(1, 7), rng.choice((2, 4, 8, 20, 40))
            self.compare(tuple(tuple(rng.randrange(-answers, answers) for _ in range(y)) for _ in range(x)))

    def test_tables_turned_over(self):
        rng = random.Random(74)
        for _ in range(60):
            self.compare(tuple(zip(*composed_table(rng, 6, 5, rng.randrange(2) == 0))))

    def test_talks_are_let_and_without_flaw(self):
        rng = random.Random(75)
        for _ in range(60):
            table = composed_table(rng, rng.randrange(1, 9), rng.randrange(1, 9), False)
            talk = talk_for(table)
            self.assertIsNone(check_talk(talk, table))
            self.assertIsNone(flaw_of(talk, table))
            self.assertEqual(talk[:3], ("talk", 1, 1))
            for inputs in itertools.product(range(len(table)), range(len(table[0]))):
                answer = table[inputs[0]][inputs[1]]
                self.assertEqual(hold_talk(talk, inputs, (0, 0))[1], (answer, answer))


class Large(unittest.TestCase):
    def test_100_rows_and_columns_all_unlike(self):
        table = tuple(tuple(100 * row - column for column in range(100)) for row in range(100))
        with within(240):
            self.assertIsNone(knot_of(table))
            talk = talk_for(table)
            self.assertIsNone(check_talk(talk, table))
            self.assertTrue(talk == written_talk(table))
            self.assertEqual(last_part(table, (57, 99)), ((57,), (99,)))

    def test_100_rows_and_columns_one_by_one(self):
        table = peeled_table(100)
        with within(240):
            self.assertIsNone(knot_of(table))
            talk = talk_for(table)
            self.assertIsNone(check_talk(talk, table))
            self.assertTrue(talk == written_talk(table))
            self.assertIsNone(flaw_of(talk, table))
            for inputs, part in (((0, 55), ((0,), tuple(range(100)))), ((99, 0), (tuple(range(1, 100)), (0,))),
                                 ((99, 99), ((99,), (99,))), ((50, 60), ((50,), tuple(range(50, 100)))),
                                 ((60, 50), (tuple(range(51, 100)), (50,)))):
                self.assertEqual(last_part(table, inputs), part)
            sent, answers = hold_talk(talk, (99, 99), (0, 0))
            self.assertEqual((sent, answers), ((0,) * 198, (198, 198)))

    def test_a_knot_at_the_very_end(self):
        cells = [list(row) for row in peeled_table(100)]
        cells[99][99] = cells[98][99]
        cells[99][98], cells[98][98] = 1000, cells[98][99]
        table = tuple(map(tuple, cells))
        with within(240):
            self.assertEqual(knot_of(table), ((98, 99), (98, 99)))
            with self.assertRaises(BadTable):
                talk_for(table)
            with self.assertRaises(BadTable):
                last_part(table, (0, 0))

    def test_a_knot_of_100_rows_and_columns(self):
        # Each row is tied to the one ahead and the next one alone, and so is each column.
        table = tuple(tuple(0 if column in (row, row + 1) else 1 + 100 * row + column for column in range(100))
                      for row in range(100))
        whole = tuple(range(100))
        with within(240):
            self.assertEqual(knot_of(table), (whole, whole))
            self.assertIs(check_knot(table, (whole, whole)), True)
            # Without its row 50 the table falls in two, each of which is a knot.
            self.assertEqual(knot_of(table[:50] + table[51:]), (tuple(range(50)), tuple(range(51))))


class WrongTables(unittest.TestCase):
    def refused(self, table):
        for call in (lambda: knot_of(table), lambda: talk_for(table), lambda: last_part(table, (0, 0))):
            with self.assertRaises(BadTable):
                call()

    def test_whatever_else(self):
        for other in strangers():
            self.refused(other)
            self.refused((other,))
        for table in (all_alike(101, 1), all_alike(1, 101), ((1, 2), (3,)), ((True,),), [(1,)], ([1],), ((1,), (None,))):
            self.refused(table)

    def test_tables_with_a_knot_have_no_talk_and_no_last_part(self):
        for table in (AND, WINDMILL, ((4, 4, 4), (0, 0, 3), (0, 1, 3))):
            with self.assertRaises(BadTable):
                talk_for(table)
            for inputs in itertools.product(range(len(table)), range(len(table[0]))):
                with self.assertRaises(BadTable):
                    last_part(table, inputs)

    def test_what_is_returned_is_made_of_tuples(self):
        for table in (((8, 9, 8, 7),), ((1, 7, 1), (5, 5, 5), (2, 7, 2))):
            self.assertTrue(plain_kinds(talk_for(table)))
            self.assertTrue(plain_kinds(last_part(table, (0, 0))))
        self.assertTrue(plain_kinds(knot_of(AND)))


if __name__ == "__main__":
    unittest.main()
