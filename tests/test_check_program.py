"""[11]: check_program."""

import random
import unittest

from jointhands.errors import BadProgram, JointError
from jointhands.programs import check_program
from tests.helpers import changed_ways, no_integers, strangers, within
from tests.runs import drawn_program, wrong_row

PROGRAM = (("put", 1), ("put", 3), ("number", -5), ("add", 0, 1), ("less", 1, 2), ("tell", 3, (1, 2)), ("times", 4, 4),
           ("scale", 7, 6), ("tell", 7, (3,)))
SIXTY = 10 ** 60 - 1


class CheckProgram(unittest.TestCase):
    def check(self, program, row, n=3):
        """The row is the number of the first one that is not right, None for a good program."""
        if row is None:
            self.assertIsNone(check_program(program, n))
            return
        try:
            check_program(program, n)
        except BadProgram as error:
            self.assertIs(type(error), BadProgram)
            self.assertIsInstance(error, JointError)
            self.assertIs(type(error.row), int)
            self.assertEqual(error.row, row)
            return
        self.fail(f"let: {program!r}")

    def behind(self, row, good, n=3):
        """The row behind others: those are two put rows, a tell row, and one more put row."""
        ahead = (("put", 1), ("put", 2), ("tell", 0, (1,)), ("put", 3))
        self.check(ahead + (row,), None if good else 4, n)
        self.check(ahead + (row, ("put", 1)), None if good else 4, n)
        self.check(ahead + (row, ("put", 99), None), 5 if good else 4, n)

    def test_each_kind_of_row(self):
        self.check(PROGRAM, None)
        for row in (("put", 1), ("put", 3), ("number", 0), ("number", -5), ("add", 0, 1), ("add", 3, 3), ("less", 3, 0),
                    ("less", 1, 1), ("times", 0, 3), ("times", 1, 0), ("scale", 0, 1), ("scale", -8, 3),
                    ("tell", 3, (1,)), ("tell", 0, (1, 2, 3)), ("tell", 1, (3,))):
            self.behind(row, True)

    def test_a_program_of_one_row(self):
        self.check((("put", 2),), None)
        self.check((("number", 2),), None)
        for row in (("add", 0, 0), ("less", 0, 0), ("times", 0, 0), ("scale", 1, 0), ("tell", 0, (1,)), ("put", 4)):
            self.check((row,), 0)

    def test_people(self):
        for n in range(1, 9):
            for person in range(-2, 11):
                self.check((("number", 1), ("put", person)), None if 1 <= person <= n else 1, n)
                self.check((("number", 1), ("tell", 0, (person,))), None if 1 <= person <= n else 1, n)
            self.check((("number", 1), ("tell", 0, tuple(range(1, n + 1)))), None, n)
            self.check((("number", 1), ("tell", 0, tuple(range(1, n + 2)))), 1, n)
            self.check((("number", 1), ("tell", 0, tuple(range(0, n + 1)))), 1, n)

    def test_people_of_a_tell_row(self):
        for people in ((1,), (2,), (1, 2), (1, 3), (2, 3), (1, 2, 3)):
            self.behind(("tell", 1, people), True)
        for people in ((), (2, 1), (3, 2), (1, 3, 2), (2, 3, 1), (1, 1), (1, 2, 2), (3, 3), (0,), (0, 1), (4,), (3, 4),
                       (1, 2, 3, 4), (-1,), (-1, 1), (-3, -2), (1, 10 ** 5000), [1], [1, 2], [], {1}, {1: 2}, "1", b"1",
                       b"\x01", range(1, 3), 1, None, True, ((1,),), (None,), (1, None), (1.0,), (1, 2.0), ("1",)):
            self.behind(("tell", 1, people), False)

    def test_rows_that_are_named(self):
        # Row 2 is tell, row 4 the row itself, row 5 and those behind it are later.
        for i in (0, 1, 3):
            for j in (0, 1, 3):
                self.named(i, j, True)
        for wrong in (2, 4, 5, 6, 100, 399, 400, 10 ** 5000, -1, -2, -3, -5, -10 ** 5000):
            self.named(0, wrong, False)
            self.named(wrong, 3, False)
            self.named(wrong, wrong, False)

    def named(self, i, j, good):
        for word in ("add", "less", "times"):
            self.behind((word, i, j), good)
        if good or i == j:
            self.behind(("scale", 2, j), good)
            self.behind(("tell", j, (1, 2)), good)

    def test_numbers_of_figures(self):
        for c in (0, 1, -1, SIXTY, -SIXTY, 10 ** 59, -10 ** 59, 10 ** 60 - 2):
            self.behind(("number", c), True)
            self.behind(("scale", c, 0), True)
        for c in (10 ** 60, -10 ** 60, 10 ** 60 + 1, 10 ** 61, -10 ** 61 - 5, 10 ** 5000, -10 ** 5000):
            self.behind(("number", c), False)
            self.behind(("scale", c, 0), False)

    def test_true_and_other_numbers(self):
        for number in no_integers():
            for row in (("put", number), ("number", number), ("add", number, 0), ("add", 0, number), ("less", number, 0),
                        ("less", 0, number), ("times", number, 0), ("times", 0, number), ("scale", number, 0),
                        ("scale", 1, number), ("tell", number, (1,)), ("tell", 0, (number,)), ("tell", 0, (1, number)),
                        ("tell", 0, (number, 2))):
                self.behind(row, False)

    def test_words_lengths_and_lists(self):
        rows = [("put", 1), ("number", 5), ("add", 0, 1), ("less", 0, 1), ("times", 0, 1), ("scale", 1, 0),
                ("tell", 0, (1,))]
        for row in rows:
            self.behind(row, True)
            for other in (list(row), row + (0,), row + ((1,),), row[:-1], row[:1], (), row[1:], row[::-1], (row,),
                          (row[0].upper(),) + row[1:], (row[0] + " ",) + row[1:], (row[0].encode(),) + row[1:],
                          (row[0][:-1],) + row[1:], (None,) + row[1:], (0,) + row[1:], ("",) + row[1:],
                          ((row[0],),) + row[1:], row[0], " ".join(map(str, row))):
                self.behind(other, False)
        for word in ("sum", "minus", "mul", "product", "end", "say", "row", "input", "const", "program", "wrong"):
            for row in ((word, 1), (word, 0, 1), (word, 0, (1,))):
                self.behind(row, False)
        # The right length, but of another word.
        for row in (("put", 1, 1), ("number", 1, 1), ("add", 0), ("times", 0), ("scale", 0), ("tell", 0), ("add", 0, (1,)),
                    ("tell", 0, 1), ("put", (1,))):
            self.behind(row, False)

    def test_what_is_no_program(self):
        for program in (list(PROGRAM), [], (), {0: ("put", 1)}, ("put", 1), (PROGRAM,), "put 1", iter(PROGRAM), None, 0,
                        (n for n in PROGRAM), [("put", 99)]):
            self.check(program, 0)

    def test_the_first_row_that_is_not_right(self):
        good = (("put", 1), ("put", 2))
        for wrong in ((("put", 0), ("put", 4)), (("add", 0, 5), None), (("tell", 0, ()), ("number", True)),
                      (("scale", 10 ** 60, 0), ("less", 2, 0)), (None, ("add", 2, 2))):
            self.check(good + wrong, 2)
            self.check(good + wrong[1:] + wrong, 2)
            self.check(wrong + good, 0)
            self.check(wrong[:1] + good + wrong[1:], 0)
            self.check(good[:1] + wrong[:1] + good[1:] + wrong[1:], 1)

    def test_long_programs(self):
        rows = (("put", 1),) + tuple(("add", at, 0) for at in range(399))
        self.check(rows, None)
        self.check(rows + (("put", 1),), 400)
        self.check(rows + (None,), 400)
        self.check(rows + (("put", 9), None), 400)
        self.check(rows * 3, 400)
        for at in (0, 1, 57, 398, 399):
            for wrong in (None, ("add", at, 0), ("put", True), list(rows[at])):
                program = rows[:at] + (wrong,) + rows[at + 1:]
                self.check(program, at)
                self.check(program + (("put", 1),), at)
                self.check(program + (None,) * 300, at)
        self.check(rows[:399] + (("tell", 398, (1,)),), None)
        self.check(rows[:399] + (("tell", 399, (1,)),), 399)

    def test_very_long_programs(self):
        with within(60):
            self.check((("put", 1),) * 2000000, 400)
            self.check((("put", 1), ("tell", 0, tuple(range(1, 2000001)))), 1)
            self.check((("put",) * 2000000,), 0)

    def test_one_thing_changed(self):
        for program in (PROGRAM, PROGRAM[:3], (("number", SIXTY), ("scale", -SIXTY, 0))):
            for other in changed_ways(program):
                self.check(other, wrong_row(other, 3))

    def test_whatever_else(self):
        for other in strangers():
            self.check(other, 0)
            self.check((("put", 1), other), 1)
            self.check((("put", 1), (other,)), 1)
            self.check((("put", 1), (other, 0)), 1)
            self.check((("put", 1), (other, 0, 0)), 1)
            self.check((("put", 1), ("tell", 0, other)), 1)
            if type(other) is not int:
                self.check((("put", other),), 0)
                self.check((("number", other),), 0)
                self.check((("put", 1), ("add", 0, other)), 1)
                self.check((("put", 1), ("scale", other, 0)), 1)
                self.check((("put", 1), ("scale", 1, other)), 1)
                self.check((("put", 1), ("tell", other, (1,))), 1)
                self.check((("put", 1), ("tell", 0, (other,))), 1)

    def test_drawn_ones(self):
        rng = random.Random(11)
        for _ in range(150):
            n = rng.randrange(1, 9)
            program = drawn_program(rng, n, rng.randrange(1, 30))
            self.check(program, None, n)
            self.check(program, wrong_row(program, n - 1), n - 1)
            mixed = list(program)
            rng.shuffle(mixed)
            self.check(tuple(mixed), wrong_row(tuple(mixed), n), n)


if __name__ == "__main__":
    unittest.main()
