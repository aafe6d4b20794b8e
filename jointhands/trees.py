"""The trees of talks, of two sides and of more people.

Nothing here calls itself: whatever is handed in may be nested deeper than Python can call.
"""

from jointhands.errors import BadTalk
from jointhands.kinds import has_word, is_integers, is_number

DEEPEST = 250


def all_trees(tree, end_items, most):
    """The list of all trees in a tree, each as often as it stands, the whole one first, first ahead of second.

    Raises BadTalk if one is no tuple with the word and the number of items that a tree has, or if they
    are too many or too deep. What the tuples tell is not looked at: where one of them stands at many
    places this would be done over and over, before it is known that there are too many.
    """
    found = []
    waiting = [(tree, 1)]
    while waiting:
        here, depth = waiting.pop()
        if depth > DEEPEST:
            raise BadTalk("the trees of the talk are nested too deep")
        if len(found) == most:
            raise BadTalk("the talk has too many trees")
        found.append(here)
        if has_word(here, "say", 5):
            waiting.append((here[4], depth + 1))
            waiting.append((here[3], depth + 1))
        elif not has_word(here, "end", end_items):
            raise BadTalk("a tree of the talk is neither a say nor an end")
    return found


def is_told(told, inputs, coins):
    """True if this tells an integer for each of so many inputs and coins."""
    if type(told) is not tuple or len(told) != inputs:
        return False
    for row in told:
        if not is_integers(row, coins):
            return False
    return True


def is_say(tree, lowest, inputs, coins):
    """True if a say is by one of the sides, and its bits are told by the inputs and coins of that side.

    The sides are numbered from the lowest; inputs and coins are how many each side has, in their order.
    """
    side = tree[1]
    if not is_number(side, lowest, lowest + len(inputs) - 1):
        return False
    at = side - lowest
    bits = tree[2]
    if not is_told(bits, inputs[at], coins[at]):
        return False
    for row in bits:
        if row.count(0) + row.count(1) != len(row):
            return False
    return True


def is_answers(answers, inputs, coins):
    """True if this is a tuple that tells the answers of each side by its inputs and coins."""
    if type(answers) is not tuple or len(answers) != len(inputs):
        return False
    for at, told in enumerate(answers):
        if not is_told(told, inputs[at], coins[at]):
            return False
    return True
