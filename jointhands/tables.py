"""The programs of tables."""

from jointhands.errors import BadModulus, BadTable
from jointhands.kinds import is_row_of
from jointhands.structures import MOST_PEOPLE

PRIMES = (2, 3, 5, 7)
MOST_VALUES = 49


class Writer:
    """The rows of a program for a table as they are written; its first rows are the puts, in order."""

    def __init__(self, people, m):
        self.m = m
        self.rows = [("put", person) for person in people]
        self.last = len(people) - 1
        # The numbers of the rows that have the powers of the last input, from 1 on.
        self.powers = [self.last]

    def write(self, row):
        """Writes a row; its number."""
        self.rows.append(row)
        return len(self.rows) - 1

    def sum_of(self, total, number):
        """The number of a row with the sum of two rows; the first one may be None, for nothing."""
        return number if total is None else self.write(("add", total, number))

    def power(self, exponent):
        """The number of the row that has this power, at least 1, of the last input."""
        while len(self.powers) < exponent:
            self.powers.append(self.write(("times", self.powers[-1], self.last)))
        return self.powers[exponent - 1]

    def value(self, table, at):
        """The number of a row with the table's value for the inputs from this place on; None if all values are 0."""
        factors = coefficients(table, self.m)
        if at == self.last:
            return self.line([factor[0] for factor in factors])
        total = None
        for factor in reversed(factors):
            if total is not None:
                total = self.write(("times", total, at))
            number = self.value(factor, at + 1)
            if number is not None:
                total = self.sum_of(total, number)
        return total

    def line(self, factors):
        """The number of a row with the sum of these multiples of powers of the last input, None if all are 0."""
        total = self.write(("number", factors[0])) if factors[0] != 0 else None
        for exponent, factor in enumerate(factors):
            if exponent > 0 and factor != 0:
                total = self.sum_of(total, self.write(("scale", factor, self.power(exponent))))
        return total


def coefficients(table, m):
    """The factors of the powers, from 0 on, in the polynomial of one input that has the table's values.

    The table falls into m pieces, one for each value of the input, and so each factor is a piece, too.
    By a prime m the factor of the power j, from 1 on, is the sum of the values at v, each times
    -1 and v to the power of m - 1 - j: for v to the power of m - 1 is 1, but for 0.
    """
    size = len(table) // m
    pieces = [table[first:first + size] for first in range(0, len(table), size)]
    weights = [-1] * m
    found = []
    for _ in range(m - 1):
        found.append(tuple([sum([weight * value for weight, value in zip(weights, column)]) % m
                            for column in zip(*pieces)]))
        weights = [weight * number for number, weight in enumerate(weights)]
    found.append(pieces[0])
    return found[::-1]


def check_people_and_table(table, people, m):
    """Raises BadTable if these are not one to three people, and a table for as many inputs."""
    if not is_row_of(people, 1, MOST_PEOPLE) or not 1 <= len(people) <= 3:
        raise BadTable("the people are a list or tuple of one to three people, from 1 to 8")
    size = 1
    for _ in people:
        size *= m
    if type(table) is not tuple or not is_row_of(table, 0, m - 1) or len(table) != size or size > MOST_VALUES:
        raise BadTable("a table is a tuple of one number for each row of inputs, at most 49 of them")


def program_of(table, people, m):
    """A program that tells to some people the value that a table has at their inputs."""
    if type(m) is not int or m not in PRIMES:
        raise BadModulus("the modulus is a prime up to 7")
    check_people_and_table(table, people, m)
    writer = Writer(people, m)
    number = writer.value(table, 0)
    if number is None:
        number = writer.write(("number", 0))
    writer.write(("tell", number, tuple(sorted(set(people)))))
    return tuple(writer.rows)
