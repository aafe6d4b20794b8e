"""The rows of programs: their looks, and what all runs reckon alike."""

from jointhands.kinds import has_word, is_ascending, is_number


def is_right_row(program, at, n):
    """True if the row at this place is one for n people; all rows ahead of it are so."""
    row = program[at]
    if has_word(row, "put", 2):
        return is_number(row[1], 1, n)
    if has_word(row, "number", 2):
        return is_short(row[1])
    if has_word(row, "scale", 3):
        return is_short(row[1]) and is_earlier(program, at, row[2])
    if has_word(row, "tell", 3):
        people = row[2]
        if type(people) is not tuple or not people or not is_ascending(people, 1, n):
            return False
        return is_earlier(program, at, row[1])
    if has_word(row, "add", 3) or has_word(row, "less", 3) or has_word(row, "times", 3):
        return is_earlier(program, at, row[1]) and is_earlier(program, at, row[2])
    return False


def is_short(number):
    """True if this is an integer of at most 60 figures."""
    return type(number) is int and abs(number) < 10 ** 60


def is_earlier(program, at, number):
    """True if this is the number of a row ahead of this place that is not tell."""
    return is_number(number, 0, at - 1) and program[number][0] != "tell"


def put_rows(program):
    """The numbers of the put rows, in order."""
    return [at for at, row in enumerate(program) if row[0] == "put"]


def many_rows(program, word):
    """How many rows have this word."""
    return len([row for row in program if row[0] == word])


def item_by_item(row, items, m):
    """The items of an add, less or scale row, by m; items has a tuple of as many for each earlier row."""
    if row[0] == "scale":
        return tuple([row[1] * item % m for item in items[row[2]]])
    sign = 1 if row[0] == "add" else -1
    return joined(items[row[1]], items[row[2]], sign, m)


def joined(one, other, sign, m):
    """The items of one tuple and those of another one, these with a sign, added up by m."""
    return tuple([(item + sign * second) % m for item, second in zip(one, other)])


def values_of(program, rows, m):
    """For each row of a program the tuple of its values by m on each of some rows of inputs."""
    given = dict(zip(put_rows(program), list(zip(*rows))))
    values = []
    for at, row in enumerate(program):
        word = row[0]
        if word == "put":
            values.append(given[at])
        elif word == "number":
            values.append((row[1] % m,) * len(rows))
        elif word == "times":
            values.append(tuple([one * other % m for one, other in zip(values[row[1]], values[row[2]])]))
        elif word == "tell":
            values.append(values[row[1]])
        else:
            values.append(item_by_item(row, values, m))
    return values
