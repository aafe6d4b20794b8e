"""The taking apart of a table, its knots, and the talk that follows it."""

from jointhands.errors import BadTable
from jointhands.kinds import is_ascending
from jointhands.talks import check_table


class Part:
    """A part of a table, in its taking apart.

    even tells whether all its answers are the same; pieces are the parts into which it falls, by rows
    if side is 0, by columns if side is 1; tree is that of the talk that follows it, once it is made.
    """

    def __init__(self, table, rows, columns):
        self.rows = rows
        self.columns = columns
        self.even = is_even(table, rows, columns)
        self.side = None
        self.pieces = []
        self.tree = None


def is_even(table, rows, columns):
    """True if all answers of a part are the same."""
    answer = table[rows[0]][columns[0]]
    for row in rows:
        line = table[row]
        for column in columns:
            if line[column] != answer:
                return False
    return True


def bundles(lines, numbers, places):
    """The bundles of the lines with these numbers, tied by their answers in these places.

    They are tuples, ascending, in the order of their first lines.
    """
    leaders = {number: number for number in numbers}
    for place in places:
        first = {}
        for number in numbers:
            tie(leaders, first.setdefault(lines[number][place], number), number)
    found = {}
    for number in numbers:
        found.setdefault(leader(leaders, number), []).append(number)
    return [tuple(bundle) for bundle in found.values()]


def leader(leaders, number):
    """The number that stands for the bundle in which this one is so far."""
    while leaders[number] != number:
        # The way up is halved as it is gone, so that it stays short.
        leaders[number] = leaders[leaders[number]]
        number = leaders[number]
    return number


def tie(leaders, one, other):
    """Puts the bundles of both numbers together."""
    leaders[leader(leaders, other)] = leader(leaders, one)


def fall_apart(table, columns, part):
    """Finds the pieces of a part, none if it stays; columns are those of the table, as tuples."""
    if part.even:
        return
    by_rows = bundles(table, part.rows, part.columns)
    if len(by_rows) > 1:
        part.side = 0
        part.pieces = [Part(table, rows, part.columns) for rows in by_rows]
        return
    by_columns = bundles(columns, part.columns, part.rows)
    if len(by_columns) > 1:
        part.side = 1
        part.pieces = [Part(table, part.rows, some) for some in by_columns]


def is_knot(part):
    """True if a part for which pieces have been looked for is a knot."""
    return not part.even and not part.pieces


def taken_apart(table):
    """All parts that are met in the taking apart of a table, up to the first knot, in the order of meeting."""
    columns = list(zip(*table))
    met = []
    waiting = [Part(table, tuple(range(len(table))), tuple(range(len(columns))))]
    while waiting:
        part = waiting.pop()
        fall_apart(table, columns, part)
        met.append(part)
        if is_knot(part):
            break
        waiting.extend(part.pieces[::-1])
    return met


def parts_without_knot(table):
    """All parts in the taking apart of a table; raises BadTable if this is none or has a knot."""
    check_table(table)
    parts = taken_apart(table)
    if is_knot(parts[-1]):
        raise BadTable("the table has a knot")
    return parts


def knot_of(table):
    """The first knot that is met in the taking apart of a table, None if there is none."""
    check_table(table)
    part = taken_apart(table)[-1]
    return (part.rows, part.columns) if is_knot(part) else None


def check_knot(table, knot):
    """True if this is a knot of the table, met in its taking apart or not, False if it is whatever else."""
    check_table(table)
    if type(knot) is not tuple or len(knot) != 2:
        return False
    rows, columns = knot
    if not is_numbers(rows, len(table)) or not is_numbers(columns, len(table[0])):
        return False
    part = Part(table, rows, columns)
    fall_apart(table, list(zip(*table)), part)
    return is_knot(part)


def is_numbers(numbers, many):
    """True if this is a tuple of at least one of so many numbers, ascending."""
    return type(numbers) is tuple and len(numbers) > 0 and is_ascending(numbers, 0, many - 1)


def last_part(table, inputs):
    """The even part, of a table without a knot, in which a pair of inputs lies in the end."""
    for part in parts_without_knot(table):
        if part.even and inputs[0] in part.rows and inputs[1] in part.columns:
            return (part.rows, part.columns)
    return None


def talk_for(table):
    """The talk without flaw that follows the taking apart of a table without a knot."""
    parts = parts_without_knot(table)
    # A part is met ahead of its pieces: backwards, their trees are there when it needs them.
    for part in reversed(parts):
        part.tree = tree_of(table, part)
    return ("talk", 1, 1, parts[0].tree)


def tree_of(table, part):
    """The tree for a part whose pieces have theirs."""
    if part.even:
        answers = ((table[part.rows[0]][part.columns[0]],),)
        return ("end", answers * len(table), answers * len(table[0]))
    many = len(table) if part.side == 0 else len(table[0])
    tree = part.pieces[-1].tree
    for piece in part.pieces[-2::-1]:
        numbers = piece.rows if part.side == 0 else piece.columns
        tree = ("say", part.side, bits_for(numbers, many), tree, piece.tree)
    return tree


def bits_for(numbers, many):
    """The bits, of so many inputs with one coin, that tell whether the input is among the numbers."""
    inside = {number: True for number in numbers}
    return tuple([(1,) if number in inside else (0,) for number in range(many)])
