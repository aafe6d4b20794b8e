"""The search for flaws of a talk that is for its table.

The pairs of inputs and coins that lead to an end are all pairs of what side 0 may hold there and what
side 1 may hold there, since each bit hangs on one side alone. So each end is looked at once, with what
both sides may hold, instead of once for each pair.
"""


class Ending:
    """An end of a talk that is reached.

    bits are sent on the way to it; held has, for each side, the coins that lead to it by input,
    ascending, without the inputs that have none; answers has what each side answers there.
    """

    def __init__(self, bits, held, answers):
        self.bits = bits
        self.held = held
        self.answers = answers


def endings_of(talk, table):
    """The ends that are reached, in the order of their bits."""
    held = (all_coins(len(table), talk[1]), all_coins(len(table[0]), talk[2]))
    found = []
    waiting = [((), held, talk[3])]
    while waiting:
        bits, held, tree = waiting.pop()
        if tree[0] == "end":
            found.append(Ending(bits, held, tree[1:]))
            continue
        side = tree[1]
        for bit in (1, 0):
            kept = coins_sending(held[side], tree[2], bit)
            if kept:
                both = (kept, held[1]) if side == 0 else (held[0], kept)
                waiting.append(((*bits, bit), both, tree[3 + bit]))
    return found


def all_coins(inputs, coins):
    """All coins for each of the inputs."""
    return {number: list(range(coins)) for number in range(inputs)}


def coins_sending(held, told, bit):
    """What is left of the held coins, by input, where this bit is sent."""
    kept = {}
    for number, coins in held.items():
        row = told[number]
        left = [coin for coin in coins if row[coin] == bit]
        if left:
            kept[number] = left
    return kept


def earlier(best, other):
    """The lesser of two pairs, or of two flaws of one kind, where best may still be None."""
    return other if best is None or other < best else best


def first_wrong(table, endings):
    """The first wrong flaw, None if there is none."""
    best = None
    for end in endings:
        for row, coins in end.held[0].items():
            for column, others in end.held[1].items():
                right = table[row][column]
                coin = first_other(end.answers[0][row], coins, right)
                if coin is not None:
                    best = earlier(best, ("wrong", (row, column), (coin, others[0]), 0))
                coin = first_other(end.answers[1][column], others, right)
                if coin is not None:
                    best = earlier(best, ("wrong", (row, column), (coins[0], coin), 1))
    return best


def first_other(answers, coins, right):
    """The first of the coins with which the answer is not the right one, None if there is none."""
    for coin in coins:
        if answers[coin] != right:
            return coin
    return None


def first_learned(lines, endings, side):
    """The first flaw by which this side learns more, None if there is none.

    lines are the table's answers by the side's input and then by the other one's.
    """
    reached = [[] for _ in lines]
    for end in endings:
        for number in end.held[side]:
            reached[number].append(end)
    for number, line in enumerate(lines):
        flaw = first_learned_with(line, reached[number], side, number)
        if flaw is not None:
            return flaw
    return None


def first_learned_with(line, endings, side, number):
    """The first flaw by which the side learns more with this input, whose ends these are."""
    alike = {}
    for other, answer in enumerate(line):
        alike.setdefault(answer, []).append(other)
    best = None
    for end in endings:
        held = end.held[1 - side]
        others = told_apart(line, alike, held)
        if others is not None:
            counts = (how_many(held, others[0]), how_many(held, others[1]))
            coin = end.held[side][number][0]
            best = earlier(best, ("learns", side, number, coin, others, end.bits, counts))
    return best


def told_apart(line, alike, held):
    """The first pair of inputs with the same answer in the line and unlike numbers of held coins, or None.

    Only answers of inputs that hold coins are looked at: all others have 0 throughout.
    """
    best = None
    for answer in {line[other]: True for other in held}:
        others = alike[answer]
        many = how_many(held, others[0])
        for other in others:
            if how_many(held, other) != many:
                best = earlier(best, (others[0], other))
                break
    return best


def how_many(held, number):
    """How many coins are held with this input."""
    return len(held[number]) if number in held else 0


def counts_with(talk, side, number, coin, others, bits):
    """The numbers of the other side's coins that lead to these bits with each of two others.

    bits is a tuple of whatever; None if it is not all bits from the start to an end.
    """
    left = [list(range(talk[2 - side])) for _ in others]
    tree = talk[3]
    for bit in bits:
        if tree[0] == "end" or type(bit) is not int or bit not in (0, 1):
            return None
        told = tree[2]
        if tree[1] != side:
            left = [[at for at in coins if told[other][at] == bit] for other, coins in zip(others, left)]
        elif told[number][coin] != bit:
            left = [[], []]
        tree = tree[3 + bit]
    return (len(left[0]), len(left[1])) if tree[0] == "end" else None
