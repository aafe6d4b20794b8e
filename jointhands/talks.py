"""Tables, talks of two sides, and their flaws."""

from jointhands.errors import BadTable, BadTalk
from jointhands.flaws import counts_with, endings_of, first_learned, first_wrong
from jointhands.kinds import has_word, is_integers, is_number, is_pair_below
from jointhands.people import Side, joined_tree, people_trees
from jointhands.trees import all_trees, is_answers, is_say

MOST_LINES = 100
MOST_COINS = 256
MOST_TREES = 40000


def check_table(table):
    """Raises BadTable if this is no table."""
    if type(table) is not tuple or not 1 <= len(table) <= MOST_LINES:
        raise BadTable("a table is a tuple of 1 to 100 rows")
    first = table[0]
    if type(first) is not tuple or not 1 <= len(first) <= MOST_LINES:
        raise BadTable("a row is a tuple of 1 to 100 answers")
    for row in table:
        if not is_integers(row, len(first)):
            raise BadTable("the rows are tuples of integers, all of the same length")


def check_talk(talk, table):
    """Raises BadTable if the table is none, BadTalk if this is no talk for it."""
    check_table(table)
    if not has_word(talk, "talk", 4):
        raise BadTalk("this is no talk")
    coins = talk[1:3]
    if not is_number(coins[0], 1, MOST_COINS) or not is_number(coins[1], 1, MOST_COINS):
        raise BadTalk("each side has 1 to 256 coins")
    inputs = (len(table), len(table[0]))
    for tree in all_trees(talk[3], 3, MOST_TREES):
        if tree[0] == "say":
            if not is_say(tree, 0, inputs, coins):
                raise BadTalk("a say is not told by the inputs and coins of a side")
        elif not is_answers(tree[1:], inputs, coins):
            raise BadTalk("an end does not tell what both sides answer")


def hold_talk(talk, inputs, coins):
    """The pair of the bits that are sent with these inputs and coins, and of both answers."""
    bits = []
    tree = talk[3]
    while tree[0] == "say":
        side = tree[1]
        bit = tree[2][inputs[side]][coins[side]]
        bits.append(bit)
        tree = tree[3 + bit]
    return (tuple(bits), (tree[1][inputs[0]][coins[0]], tree[2][inputs[1]][coins[1]]))


def flaw_of(talk, table):
    """The first flaw of a talk for a table, None if there is none."""
    check_talk(talk, table)
    endings = endings_of(talk, table)
    flaw = first_wrong(table, endings)
    if flaw is None:
        flaw = first_learned(table, endings, 0)
    if flaw is None:
        flaw = first_learned(list(zip(*table)), endings, 1)
    return flaw


def check_flaw(talk, table, flaw):
    """True if this is a flaw of a talk for a table, False if it is whatever else."""
    check_talk(talk, table)
    if has_word(flaw, "wrong", 4):
        return is_wrong(talk, table, flaw)
    return has_word(flaw, "learns", 7) and is_learned(talk, table, flaw)


def is_wrong(talk, table, flaw):
    """True if a tuple with the word of a wrong flaw is one."""
    _, inputs, coins, side = flaw
    if not is_pair_below(inputs, (len(table), len(table[0]))):
        return False
    if not is_pair_below(coins, talk[1:3]) or not is_number(side, 0, 1):
        return False
    answers = hold_talk(talk, inputs, coins)[1]
    return answers[side] != table[inputs[0]][inputs[1]]


def is_learned(talk, table, flaw):
    """True if a tuple with the word of a flaw by which a side learns more is one."""
    _, side, number, coin, others, bits, counts = flaw
    if not is_number(side, 0, 1):
        return False
    lines = table if side == 0 else list(zip(*table))
    if not is_number(number, 0, len(lines) - 1) or not is_number(coin, 0, talk[1 + side] - 1):
        return False
    line = lines[number]
    if not is_pair_below(others, (len(line), len(line))) or others[0] >= others[1]:
        return False
    if line[others[0]] != line[others[1]] or type(bits) is not tuple or not is_integers(counts, 2):
        return False
    return counts[0] != counts[1] and counts == counts_with(talk, side, number, coin, others, bits)


def two_sides(people_talk, sizes, group):
    """The talk in which side 0 does what the people of the group do, and side 1 what the others do."""
    trees = people_trees(people_talk, sizes, group)
    coins = people_talk[1]
    others = [person for person in range(1, len(coins) + 1) if person not in group]
    sides = (Side(list(group), sizes, coins), Side(others, sizes, coins))
    return ("talk", len(sides[0].coins), len(sides[1].coins), joined_tree(trees, sides))
