"""Talks of more than two people, seen as talks of two sides."""

from jointhands.errors import BadTalk
from jointhands.kinds import has_word, is_ascending, is_number
from jointhands.trees import all_trees, is_answers, is_say

MOST_PEOPLE_TREES = 200


class Side:
    """Some people who act as one side; inputs and coins are all tuples of theirs, ascending."""

    def __init__(self, people, sizes, coins):
        self.people = people
        self.inputs = all_tuples([sizes[person - 1] for person in people])
        self.coins = all_tuples([coins[person - 1] for person in people])

    def tell(self, person, told):
        """What one of the people tells by input and coin, told by the side's input and coin."""
        at = self.people.index(person)
        rows = [tuple([row[coins[at]] for coins in self.coins]) for row in told]
        return tuple([rows[inputs[at]] for inputs in self.inputs])


def all_tuples(sizes):
    """All tuples of numbers, each below its size, in ascending order."""
    found = [()]
    for size in sizes:
        found = [(*row, number) for row in found for number in range(size)]
    return found


def is_sizes(sizes, many, high):
    """True if this is a tuple of so many integers from 1 to high."""
    if type(sizes) is not tuple or len(sizes) != many:
        return False
    for size in sizes:
        if not is_number(size, 1, high):
            return False
    return True


def is_group(group, many):
    """True if this is a list or tuple of some but not all of so many people."""
    if type(group) is not list and type(group) is not tuple:
        return False
    return 1 <= len(group) < many and is_ascending(group, 1, many)


def people_trees(people_talk, sizes, group):
    """All trees of a talk of people; raises BadTalk if the talk, the sizes or the group is not as told."""
    if not has_word(people_talk, "people", 3):
        raise BadTalk("this is no talk of people")
    coins = people_talk[1]
    if type(coins) is not tuple or not 2 <= len(coins) <= 5 or not is_sizes(coins, len(coins), 4):
        raise BadTalk("the numbers of coins are not right")
    if not is_sizes(sizes, len(coins), 3):
        raise BadTalk("the sizes are not right")
    if not is_group(group, len(coins)):
        raise BadTalk("the group is not some but not all people, ascending")
    trees = all_trees(people_talk[2], 2, MOST_PEOPLE_TREES)
    for tree in trees:
        if tree[0] == "say":
            if not is_say(tree, 1, sizes, coins):
                raise BadTalk("a say is not told by the inputs and coins of one of the people")
        elif not is_answers(tree[1], sizes, coins):
            raise BadTalk("an end does not tell what each person answers")
    return trees


def joined_tree(trees, sides):
    """The tree of the talk of two sides that the trees of a talk of people make.

    Backwards, both trees of a say come ahead of it, the first one last.
    """
    made = []
    for tree in reversed(trees):
        if tree[0] == "say":
            first = made.pop()
            second = made.pop()
            made.append(joined_say(tree, sides, first, second))
        else:
            made.append(("end", first_answers(tree, sides[0]), first_answers(tree, sides[1])))
    return made[0]


def joined_say(tree, sides, first, second):
    """What one of the people says, said by the side of that person."""
    at = 0 if tree[1] in sides[0].people else 1
    return ("say", at, sides[at].tell(tree[1], tree[2]), first, second)


def first_answers(tree, side):
    """What the first person of a side answers at an end."""
    person = side.people[0]
    return side.tell(person, tree[1][person - 1])
