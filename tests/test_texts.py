"""read_program and write_program."""

import random
import unittest

from jointhands.errors import BadProgram, BadText
from jointhands.programs import check_program, read_program, write_program
from tests.helpers import strangers
from tests.runs import drawn_program, written

TEXT = "put 1\nnumber -5\nadd 0 1\nless 0 1\ntimes 0 1\nscale -3 0\ntell 2 1 3"
PROGRAM = (("put", 1), ("number", -5), ("add", 0, 1), ("less", 0, 1), ("times", 0, 1), ("scale", -3, 0),
           ("tell", 2, (1, 3)))
SIXTY = "9" * 60
# One line of each word, with what it writes.
LINES = [("put 1", ("put", 1)), ("number 5", ("number", 5)), ("add 0 1", ("add", 0, 1)), ("less 2 0", ("less", 2, 0)),
         ("times 3 3", ("times", 3, 3)), ("scale 4 0", ("scale", 4, 0)), ("tell 2 1", ("tell", 2, (1,))),
         ("tell 0 1 2 3", ("tell", 0, (1, 2, 3)))]
# Where the words of a row may be below 0.
MAY_BE_NEGATIVE = {("number", 1), ("scale", 1)}


class ReadProgram(unittest.TestCase):
    def check(self, text, program):
        self.assertEqual(repr(read_program(text)), repr(program))

    def refused(self, text, place):
        try:
            read_program(text)
        except BadText as error:
            self.assertIs(type(error), BadText)
            self.assertIs(type(error.place), int)
            self.assertEqual(error.place, place, text)
            return
        self.fail(f"read: {text!r}")

    def line_refused(self, line):
        """The line alone, behind others, ahead of others, and ahead of another wrong one."""
        self.refused(line, 0)
        self.refused("put 1\n" + line, 1)
        self.refused("put 1\nput 2\n" + line + "\nput 3", 2)
        self.refused("put 1\n" + line + "\nnothing\n", 1)

    def test_by_hand(self):
        self.check(TEXT, PROGRAM)
        for line, row in LINES:
            self.check(line, (row,))
            self.check(line + "\n" + line, (row, row))

    def test_signs(self):
        self.check("number -5", (("number", -5),))
        self.check("number 0", (("number", 0),))
        self.check("scale 0 0", (("scale", 0, 0),))
        self.check("scale -10 10", (("scale", -10, 10),))
        for line, row in LINES:
            words = line.split(" ")
            for at in range(1, len(words)):
                for sign in ("-", "+", "--", "- ", "\u2212", "\u2013", "~"):
                    text = " ".join(words[:at] + [sign + "7"] + words[at + 1:])
                    if sign == "-" and (words[0], at) in MAY_BE_NEGATIVE:
                        self.check(text, (row[:at] + (-7,) + row[at + 1:],))
                    else:
                        self.line_refused(text)

    def words_put_in(self):
        """(word, place, text) for a text with a place for a number of this word."""
        for line, _ in LINES:
            words = line.split(" ")
            for at in range(1, len(words)):
                yield words[0], at, " ".join(words[:at] + ["{}"] + words[at + 1:])

    def test_numbers_that_are_not_right(self):
        for word, at, text in self.words_put_in():
            for number in ("", "00", "01", "007", "-0", "-00", "-01", "+0", "+1", "0x1", "1_0", "1.0", "1,", "1e2", "a",
                           "1a", "a1", "0b1", "-", "--1", "1-", "()", "(1)", "True", "None", "\u00b2", "\u0661", "\uff11",
                           "1\u0660", "\u06f1\u06f2", "\u0967", "\u2460", "-\u0661", "1\u200b", "1\x00", "1'", "l", "O",
                           "0" * 60, "0" + SIXTY, "1" + "0" * 60, SIXTY + "9", "-" + SIXTY + "1", "1" * 5000,
                           "-" + "1" * 5000):
                self.line_refused(text.format(number))

    def test_numbers_of_figures(self):
        for word, at, text in self.words_put_in():
            for number in (SIXTY, "1" + "0" * 59, "0", "10", "12345678901234567890"):
                self.assertIn(int(number), flat(read_program(text.format(number))))
            for number in ("-" + SIXTY, "-1" + "0" * 59, "-1", "-10"):
                if (word, at) in MAY_BE_NEGATIVE:
                    self.assertIn(int(number), flat(read_program(text.format(number))))
                else:
                    self.line_refused(text.format(number))

    def test_nothing_else_is_looked_at(self):
        self.check("add 7 8\ntell 9 99 0\nput 0", (("add", 7, 8), ("tell", 9, (99, 0)), ("put", 0)))
        self.check("tell 0 1\nadd 0 0", (("tell", 0, (1,)), ("add", 0, 0)))
        self.check("\n".join(["put 9"] * 1000), (("put", 9),) * 1000)
        self.check("tell 0 " + " ".join(["3"] * 500), (("tell", 0, (3,) * 500),))

    def test_people_in_any_order_and_twice(self):
        self.check("tell 2 3 1", (("tell", 2, (3, 1)),))
        self.check("tell 2 3 1 2 2 3", (("tell", 2, (3, 1, 2, 2, 3)),))
        self.check("tell 0 0 0", (("tell", 0, (0, 0)),))

    def test_spaces(self):
        for line, _ in LINES:
            for other in (" " + line, line + " ", "  " + line, line.replace(" ", "  "), line.replace(" ", "  ", 1),
                          line.replace(" ", "\t"), line.replace(" ", "\t", 1), line + "\t", "\t" + line,
                          line.replace(" ", "\u00a0", 1), line.replace(" ", "", 1), line.replace(" ", ",", 1),
                          line.replace(" ", "\v", 1), line.replace(" ", "\f", 1), line + " \n" + line):
                self.line_refused(other)

    def test_line_ends(self):
        self.refused("put 1\n", 1)
        self.refused("\nput 1", 0)
        self.refused("put 1\n\nput 2", 1)
        self.refused("put 1\nput 2\n\n", 2)
        self.refused("\n", 0)
        self.refused("\n\n\n", 0)
        for end in ("\r\n", "\r", "\v", "\f", "\x1c", "\x1d", "\x1e", "\x85", "\u2028", "\u2029"):
            self.refused("put 1" + end + "put 2", 0)
            self.refused("put 1" + end, 0)
            self.refused("put 1\nput 2" + end + "\nput 3", 1)
            self.refused("number 1\ntell 0 1" + end, 1)

    def test_empty_texts(self):
        self.refused("", 0)
        self.line_refused(" ")
        self.line_refused("\t")
        self.line_refused("\r")

    def test_words(self):
        for word in ("", "Put", "PUT", "puts", "pu", "sum", "minus", "mul", "product", "end", "row", "0", "1", "-1", "#",
                     "p\u00fat", "put:", "\ufeffput", "None", "items", "get"):
            for numbers in ("", " 1", " 0 1", " 0 1 2"):
                self.line_refused(word + numbers)

    def test_too_few_and_too_many_words(self):
        for line in ("put", "put 1 2", "number", "number 1 2", "add", "add 0", "add 0 1 2", "less", "less 0", "less 0 1 2",
                     "times", "times 0", "times 0 1 2", "scale", "scale 1", "scale 1 0 0", "tell", "tell 0", "put 1 put 1",
                     "tell 0 1 x", "tell x 1", "1 put", "put put", "0: put 1", "put 1 # one", "(put, 1)"):
            self.line_refused(line)

    def test_the_first_line_that_is_not_right(self):
        self.refused("put 1\nput\nadd\n", 1)
        self.refused("add 0\nput 1\n", 0)
        lines = ["put 1"] * 500
        for place in (0, 1, 250, 499):
            for wrong in ("", "put 01", "put 1 "):
                self.refused("\n".join(lines[:place] + [wrong] + lines[place + 1:]), place)


def flat(value):
    return [number for item in value for number in flat(item)] if type(value) is tuple else [value]


class WriteProgram(unittest.TestCase):
    def test_by_hand(self):
        self.assertEqual(write_program(PROGRAM), TEXT)
        self.assertEqual(write_program((("put", 8),)), "put 8")
        self.assertEqual(write_program((("put", 8), ("tell", 0, (1, 4, 8)))), "put 8\ntell 0 1 4 8")

    def test_great_numbers(self):
        for number in (10 ** 60 - 1, 1 - 10 ** 60, 0, -1):
            program = (("number", number), ("scale", number, 0))
            self.assertEqual(write_program(program), f"number {number}\nscale {number} 0")
            self.assertEqual(read_program(write_program(program)), program)

    def test_reading_what_was_written(self):
        rng = random.Random(13)
        for _ in range(200):
            program = drawn_program(rng, 8, rng.randrange(1, 40))
            text = write_program(program)
            self.assertEqual(text, written(program))
            self.assertEqual(repr(read_program(text)), repr(program))
            self.assertEqual(write_program(read_program(text)), text)
            self.assertIsNone(check_program(read_program(text), 8))
        program = (("put", 1),) + tuple(("add", at, 0) for at in range(399))
        self.assertEqual(repr(read_program(write_program(program))), repr(program))

    def refused(self, program, row):
        with self.assertRaises(BadProgram) as caught:
            write_program(program)
        self.assertIs(type(caught.exception), BadProgram)
        self.assertEqual(caught.exception.row, row)

    def test_what_is_no_good_program(self):
        for program, row in (((), 0), ([], 0), (list(PROGRAM), 0), ((("put", 9),), 0), ((("put", 1), ("put", 0)), 1),
                             ((("put", 1), ("tell", 0, (3, 1))), 1), ((("put", 1), ("tell", 0, (8, 9))), 1),
                             ((("put", 1),) * 401, 400), ((("put", 1),) * 400 + (None,), 400),
                             (PROGRAM + (("add", 6, 0),), 7), (PROGRAM + (("number", 10 ** 60), None), 7),
                             (PROGRAM + (("scale", True, 0),), 7), (PROGRAM[:3] + (["put", 1],), 3)):
            self.refused(program, row)

    def test_whatever_else(self):
        for other in strangers():
            self.refused(other, 0)
            self.refused(PROGRAM + (other,), 7)


if __name__ == "__main__":
    unittest.main()
