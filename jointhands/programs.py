"""Programs of sums and products: their look, their plain values, and their texts."""

from jointhands.errors import BadProgram, BadText
from jointhands.looks import check_inputs, check_modulus
from jointhands.rows import is_right_row, put_rows
from jointhands.structures import MOST_PEOPLE
from jointhands.texts import read_row, write_row

MOST_ROWS = 400


def check_program(program, n):
    """Raises BadProgram if this is no good program for n people."""
    if type(program) is not tuple or not program:
        raise BadProgram(0)
    for at in range(min(len(program), MOST_ROWS)):
        if not is_right_row(program, at, n):
            raise BadProgram(at)
    if len(program) > MOST_ROWS:
        raise BadProgram(MOST_ROWS)


def plain(program, inputs, m):
    """The list of the values of all rows, that of a tell row being the value that is told."""
    check_modulus(m)
    check_program(program, MOST_PEOPLE)
    check_inputs(program, inputs, m)
    given = dict(zip(put_rows(program), inputs))
    values = []
    for at, row in enumerate(program):
        values.append(given[at] if at in given else value_of(row, values, m))
    return values


def value_of(row, values, m):
    """The value of a row that is no put row; values has those of all rows ahead of it."""
    word = row[0]
    if word == "number":
        return row[1] % m
    if word == "tell":
        return values[row[1]]
    if word == "scale":
        return row[1] * values[row[2]] % m
    one, other = values[row[1]], values[row[2]]
    if word == "add":
        return (one + other) % m
    if word == "less":
        return (one - other) % m
    return one * other % m


def read_program(text):
    """The program that a text writes, one row per line."""
    rows = []
    for place, line in enumerate(text.split("\n")):
        row = read_row(line)
        if row is None:
            raise BadText(place)
        rows.append(row)
    return tuple(rows)


def write_program(program):
    """The text that writes a good program for 8 people."""
    check_program(program, MOST_PEOPLE)
    return "\n".join([write_row(row) for row in program])
