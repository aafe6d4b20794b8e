"""What the tests share: values of other kinds, small talks and tables, and searches of the tests' own.

Nothing here uses the package: the tests compare it with what is written out here once more, as plainly
and as slowly as DOC.md tells it.
"""

import contextlib
import itertools
import signal


class Agreeing:
    """Says that it is the same as everything."""

    __hash__ = None

    def __eq__(self, other):
        return True

    def __ne__(self, other):
        return False


class Refusing:
    """Does not let itself be measured, compared, iterated or tested."""

    __hash__ = None

    def refuse(self, *rest):
        raise RuntimeError("a stranger's method was called")

    __eq__ = __ne__ = __lt__ = __le__ = __gt__ = __ge__ = refuse
    __len__ = __iter__ = __getitem__ = __contains__ = __bool__ = __index__ = __int__ = refuse


def strangers():
    """Values of many kinds, none of which is a table, a talk, a tree, a flaw or a knot."""
    return [
        None, True, False, 0, 1, -1, 7, 10 ** 5000, 1.0, 0.5, float("nan"), 1j, "", "a", "talk", "wrong", "learns",
        b"", b"ab", bytearray(b"ab"), (), ((),), (None,), [], [[0]], {}, {0: 0}, set(), {0}, frozenset({0}),
        range(1), range(2), iter(()), iter([(0,)]), zip(), (n for n in (0,)), object(), object, tuple, len,
        lambda: None, Ellipsis, NotImplemented, ValueError("x"), memoryview(b"ab"), Agreeing(), Refusing(),
    ]


def no_integers():
    """Values that are no integers, though some of them are like one."""
    return [True, False, None, 0.0, 1.0, 1j, "0", "1", "", b"0", (), (0,), [0], {0: 0}, object(), Agreeing()]


@contextlib.contextmanager
def within(seconds):
    """Fails if what is done here takes longer, instead of going on for hours."""
    def stop(*rest):
        raise AssertionError(f"took longer than {seconds} seconds")

    before = signal.signal(signal.SIGALRM, stop)
    signal.alarm(seconds)
    try:
        yield
    finally:
        signal.alarm(0)
        signal.signal(signal.SIGALRM, before)


def all_alike(x, y, answer=0):
    """A table of x rows and y columns with one answer."""
    return ((answer,) * y,) * x


def plain_kinds(value):
    """True if this is made of tuples, strings, None and integers (no True, no False) alone."""
    waiting = [value]
    while waiting:
        here = waiting.pop()
        if type(here) is tuple:
            waiting.extend(here)
        elif here is not None and type(here) not in (int, str):
            return False
    return True


# Tables

def all_tables(x, y, most=None):
    """All tables of x rows and y columns, but for the names of the answers, with at most so many answers."""
    def rows_of(cells):
        return tuple(tuple(cells[row * y:row * y + y]) for row in range(x))

    def go_on(cells, used):
        if len(cells) == x * y:
            yield rows_of(cells)
            return
        for answer in range(used + 1):
            if most is None or answer < most:
                yield from go_on(cells + [answer], max(used, answer + 1))

    return list(go_on([], 0))


def split_up(lines):
    """The bundles of some lines, told as {number: answers}: lists of numbers, in the order of their first."""
    found = []
    left = sorted(lines)
    while left:
        bundle = [left.pop(0)]
        grown = True
        while grown:
            grown = False
            for number in list(left):
                if any(a == b for held in bundle for a, b in zip(lines[held], lines[number])):
                    bundle.append(number)
                    left.remove(number)
                    grown = True
        found.append(tuple(sorted(bundle)))
    return found


def row_bundles(table, rows, columns):
    return split_up({row: [table[row][column] for column in columns] for row in rows})


def column_bundles(table, rows, columns):
    return split_up({column: [table[row][column] for row in rows] for column in columns})


def answers_in(table, rows, columns):
    return {table[row][column] for row in rows for column in columns}


def is_a_knot(table, rows, columns):
    """Whether a part is a knot, by the words of [6]."""
    return (len(answers_in(table, rows, columns)) > 1 and len(row_bundles(table, rows, columns)) == 1
            and len(column_bundles(table, rows, columns)) == 1)


def take_apart(table, rows=None, columns=None):
    """The taking apart, step by step: ("even", rows, columns), ("knot", ..) or (side, rows, columns, pieces)."""
    if rows is None:
        rows, columns = tuple(range(len(table))), tuple(range(len(table[0])))
    if len(answers_in(table, rows, columns)) == 1:
        return ("even", rows, columns)
    by_rows = row_bundles(table, rows, columns)
    by_columns = column_bundles(table, rows, columns)
    if len(by_rows) == 1 and len(by_columns) == 1:
        return ("knot", rows, columns)
    if len(by_rows) > 1:
        return (0, rows, columns, [take_apart(table, some, columns) for some in by_rows])
    return (1, rows, columns, [take_apart(table, rows, some) for some in by_columns])


def parts_that_stay(taken):
    """The even parts and knots, in the order in which they are met."""
    if taken[0] in ("even", "knot"):
        return [taken]
    return [part for piece in taken[3] for part in parts_that_stay(piece)]


def written_talk(table):
    """The talk of [7], sign by sign, for a table without a knot."""
    sizes = (len(table), len(table[0]))

    def tree_for(taken):
        if taken[0] == "even":
            answer = table[taken[1][0]][taken[2][0]]
            return ("end", ((answer,),) * sizes[0], ((answer,),) * sizes[1])
        return chain_for(taken[0], taken[3])

    def chain_for(side, pieces):
        if len(pieces) == 1:
            return tree_for(pieces[0])
        inside = pieces[0][1 + side]
        bits = tuple((1 if number in inside else 0,) for number in range(sizes[side]))
        return ("say", side, bits, chain_for(side, pieces[1:]), tree_for(pieces[0]))

    return ("talk", 1, 1, tree_for(take_apart(table)))


def composed_table(rng, x, y, knots):
    """A table that is taken apart several times, its rows and columns in any order; with knots, perhaps."""
    fresh = itertools.count(rng.choice((-3, 0, 10 ** 30)))

    def block(x, y):
        cut = rng.randrange(4)
        if cut == 0 and x > 1:
            at = rng.randrange(1, x)
            return block(at, y) + block(x - at, y)
        if cut == 1 and y > 1:
            at = rng.randrange(1, y)
            return [one + other for one, other in zip(block(x, at), block(x, y - at))]
        if cut == 2 and knots and x > 1 and y > 1:
            one, other = next(fresh), next(fresh)
            return [[one] * (y - 1) + [other]] + [[one] * y for _ in range(x - 1)]
        if cut == 3 and x * y > 1:
            return block(x, y)
        return [[next(fresh)] * y for _ in range(x)]

    cells = block(x, y)
    rows, columns = list(range(x)), list(range(y))
    rng.shuffle(rows)
    rng.shuffle(columns)
    return tuple(tuple(cells[row][column] for column in columns) for row in rows)


def peeled_table(lines):
    """A square table from which one row and one column are taken in turn, down to one answer."""
    return tuple(tuple(2 * min(row, column) + (1 if row > column else 0) for column in range(lines))
                 for row in range(lines))


# Talks

def say(side, bits, first, second):
    return ("say", side, bits, first, second)


def told_alike(number, inputs, coins):
    """The same number for each input and coin."""
    return ((number,) * coins,) * inputs


def plain_end(inputs, coins, answer=0):
    return ("end", told_alike(answer, inputs[0], coins[0]), told_alike(answer, inputs[1], coins[1]))


def chained(many, end, way=0, side=0, bits=((0,),)):
    """So many trees one within the other, the innermost one an end, the others says with an end as other tree."""
    tree = end
    for _ in range(many - 1):
        tree = ("say", side, bits, tree, end) if way == 0 else ("say", side, bits, end, tree)
    return tree


def bushy(ends, end, side=0, bits=((0,),)):
    """A tree with so many ends, as flat as can be: 2 * ends - 1 trees in all."""
    trees = [end] * ends
    while len(trees) > 1:
        pairs = [("say", side, bits, trees[at], trees[at + 1]) for at in range(0, len(trees) - 1, 2)]
        trees = pairs + trees[len(trees) - len(trees) % 2:]
    return trees[0]


def random_told(rng, choices, inputs, coins):
    return tuple(tuple(rng.choice(choices) for _ in range(coins)) for _ in range(inputs))


def random_tree(rng, depth, inputs, coins, answers):
    """A tree at most so deep, for so many inputs and coins of both sides."""
    if depth == 1 or rng.randrange(5) == 0:
        return ("end", random_told(rng, answers, inputs[0], coins[0]), random_told(rng, answers, inputs[1], coins[1]))
    side = rng.randrange(2)
    bits = random_told(rng, (0, 1), inputs[side], coins[side])
    return ("say", side, bits, random_tree(rng, depth - 1, inputs, coins, answers),
            random_tree(rng, depth - 1, inputs, coins, answers))


def held_by_hand(talk, inputs, coins):
    """The bits that are sent and the end that is reached."""
    sent = ()
    tree = talk[3]
    while tree[0] == "say":
        _, side, bits, first, second = tree
        sent += (bits[inputs[side]][coins[side]],)
        tree = second if sent[-1] == 1 else first
    return sent, tree


def all_held(talk, table):
    """{(inputs, coins): (bits, answers)} for all inputs and coins."""
    found = {}
    for inputs in itertools.product(range(len(table)), range(len(table[0]))):
        for coins in itertools.product(range(talk[1]), range(talk[2])):
            bits, end = held_by_hand(talk, inputs, coins)
            found[inputs, coins] = (bits, (end[1][inputs[0]][coins[0]], end[2][inputs[1]][coins[1]]))
    return found


def all_flaws(talk, table):
    """All flaws of a talk and a table, in the order of [5]."""
    held = all_held(talk, table)
    flaws = []
    for (inputs, coins), (_, answers) in sorted(held.items()):
        for side in (0, 1):
            if answers[side] != table[inputs[0]][inputs[1]]:
                flaws.append(("wrong", inputs, coins, side))
    sizes = (len(table), len(table[0]))
    rows_of_bits = sorted({bits for bits, _ in held.values()})
    for side in (0, 1):
        for number, coin in itertools.product(range(sizes[side]), range(talk[1 + side])):
            for others in itertools.combinations(range(sizes[1 - side]), 2):
                flaws += learned_from(held, table, talk, (side, number, coin, others), rows_of_bits)
    return flaws


def learned_from(held, table, talk, what, rows_of_bits):
    """The flaws by which a side learns more with this input, coin and pair of others."""
    side, number, coin, others = what
    pairs = [(number, other) if side == 0 else (other, number) for other in others]
    if table[pairs[0][0]][pairs[0][1]] != table[pairs[1][0]][pairs[1][1]]:
        return []
    found = []
    for bits in rows_of_bits:
        counts = []
        for inputs in pairs:
            ways = [(coin, at) if side == 0 else (at, coin) for at in range(talk[2 - side])]
            counts.append(sum(1 for coins in ways if held[inputs, coins][0] == bits))
        if counts[0] != counts[1]:
            found.append(("learns", side, number, coin, others, bits, tuple(counts)))
    return found


def with_right_answers(tree, table, coins):
    """The tree with answers of the table, at each end, as far as they can be told there."""
    inputs = (len(table), len(table[0]))

    def answered(tree, pairs):
        if tree[0] == "say":
            _, side, bits, first, second = tree
            sent = [[pair for pair in pairs if bits[pair[0][side]][pair[1][side]] == bit] for bit in (0, 1)]
            return ("say", side, bits, answered(first, sent[0]), answered(second, sent[1]))
        told = []
        for side in (0, 1):
            met = {}
            for held, drawn in pairs:
                met.setdefault((held[side], drawn[side]), table[held[0]][held[1]])
            told.append(tuple(tuple(met.get((number, coin), 0) for coin in range(coins[side]))
                              for number in range(inputs[side])))
        return ("end", told[0], told[1])

    both = itertools.product(itertools.product(range(inputs[0]), range(inputs[1])),
                             itertools.product(range(coins[0]), range(coins[1])))
    return answered(tree, list(both))


def changed_ways(value, swaps=(True, False, -1, 99, 10 ** 40, None, "x", 1.0, 0.0, [])):
    """Values that are like this one but for one part, at any depth: other numbers, kinds and lengths."""
    if type(value) is tuple:
        yield list(value)
        yield value + (0,)
        yield value + value[-1:]
        yield value[:-1]
        yield value[1:]
        yield value[::-1]
        yield ()
        for at, item in enumerate(value):
            for other in changed_ways(item, swaps):
                yield value[:at] + (other,) + value[at + 1:]
    elif type(value) is int:
        yield value + 1
        yield value - 1
        yield float(value)
        yield str(value)
        if value in (0, 1):
            yield bool(value)
    elif type(value) is str:
        yield value + " "
        yield value.upper()
        yield value.encode()
    yield from swaps
