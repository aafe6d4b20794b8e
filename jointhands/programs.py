"""Programs of sums and products: their look, their plain values, and their texts."""

from jointhands.errors import BadProgram, BadText
from jointhands.looks import check_inputs, check_modulus
from jointhands.rows import is_right_row, values_of
from jointhands.structures import MOST_PEOPLE
from jointhands.texts import read_row, write_row

MOST_ROWS = 400


def check_program(program, n):
    """Raises BadProgram if this is no good program for n people."""
    if type(program) is not tuple or not program:
        raise BadProgram(0)
    for at in range(min(len(program), MOST_ROWS)):
        if not is_right_row(program, at, n):
            raise BadProgram(at)
    if len(program) > MOST_ROWS:
        raise BadProgram(MOST_ROWS)


def check_given(m, program, n, inputs):
    """Looks at a modulus, a program for n people and its inputs, in this order."""
    check_modulus(m)
    check_program(program, n)
    check_inputs(program, inputs, m)


def plain(program, inputs, m):
    """The list of the values of all rows, that of a tell row being the value that is told."""
    check_given(m, program, MOST_PEOPLE, inputs)
    return [column[0] for column in values_of(program, [inputs], m)]


def read_program(text):
    """The program that a text writes, one row per line."""
    rows = []
    for place, line in enumerate(text.split("\n")):
        row = read_row(line)
        if row is None:
            raise BadText(place)
        rows.append(row)
    return tuple(rows)


def write_program(program):
    """The text that writes a good program for 8 people."""
    check_program(program, MOST_PEOPLE)
    return "\n".join([write_row(row) for row in program])
