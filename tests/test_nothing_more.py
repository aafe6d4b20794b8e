"""[1] and [16]: what a view of a quiet run lets out, over all rows of coins of small runs."""

import itertools
import unittest
from collections import Counter

from jointhands.quiet import run_quiet, view_quiet
from tests.helpers import within
from tests.runs import coins_taken, plain_by_hand, puts_of, within_greatest

TWO_PARTS = ("structure", 3, ((1,), (2,)))
THREE_PARTS = ("structure", 3, ((1,), (2,), (3,)))
UNLIKE = ("structure", 4, ((1, 2), (3,)))
IN_ALL = ("structure", 4, ((1, 4), (2, 4)))
ONE_PART = ("structure", 3, ((1, 3),))
SQUARE = (("put", 1), ("times", 0, 0), ("tell", 1, (2,)))
PRODUCT = (("put", 1), ("put", 2), ("times", 0, 1), ("tell", 2, (1, 3)))
SUM = (("put", 1), ("put", 2), ("put", 3), ("add", 0, 1), ("less", 3, 2), ("tell", 4, (1,)), ("scale", 2, 3),
       ("tell", 6, (2, 3)))
NOT_TOLD = (("put", 2), ("number", 1), ("add", 0, 1), ("times", 2, 2))
# (structure, m, program), with few enough coins to go through all of them.
SMALL = [
    (TWO_PARTS, 2, SQUARE), (TWO_PARTS, 3, SQUARE), (TWO_PARTS, 2, PRODUCT), (TWO_PARTS, 3, PRODUCT), (TWO_PARTS, 4, SQUARE),
    (TWO_PARTS, 2, SUM), (TWO_PARTS, 3, SUM), (TWO_PARTS, 3, NOT_TOLD), (("structure", 3, ((3,), (1,))), 3, PRODUCT),
    (THREE_PARTS, 2, SQUARE), (THREE_PARTS, 2, PRODUCT), (THREE_PARTS, 2, SUM), (THREE_PARTS, 3, SUM[:6]),
    (THREE_PARTS, 2, NOT_TOLD), (UNLIKE, 2, PRODUCT), (UNLIKE, 3, SUM), (IN_ALL, 2, PRODUCT + (("tell", 0, (4,)),)),
    (IN_ALL, 3, SUM + (("tell", 0, (4,)),)), (ONE_PART, 3, PRODUCT), (ONE_PART, 2, SUM),
]


def all_views(structure, m, program, group):
    """{inputs: how often each view comes, over all rows of coins}."""
    many = coins_taken(structure, program)
    found = {}
    for inputs in itertools.product(range(m), repeat=len(puts_of(program))):
        views = Counter()
        for coins in itertools.product(range(m), repeat=many):
            views[view_quiet(run_quiet(structure, m, program, inputs, coins), program, inputs, group)] += 1
        found[inputs] = views
    return found


def known_to(program, group, inputs, m):
    """The inputs of members and the plain values told to members."""
    plain = plain_by_hand(program, inputs, m)
    puts = [program[at][1] for at in puts_of(program)]
    told = [(at, plain[at]) for at, row in enumerate(program) if row[0] == "tell" and set(row[2]) & set(group)]
    return ([number for person, number in zip(puts, inputs) if person in group], told)


class NothingMore(unittest.TestCase):
    def check(self, structure, m, program, group):
        views = all_views(structure, m, program, group)
        agreeing = others = 0
        for one, other in itertools.combinations(views, 2):
            if known_to(program, group, one, m) == known_to(program, group, other, m):
                agreeing += 1
                self.assertEqual(views[one], views[other], (structure, m, program, group, one, other))
            else:
                others += 1
                self.assertFalse(set(views[one]) & set(views[other]), (structure, m, program, group, one, other))
        return agreeing, others

    def test_groups_within_greatest_ones(self):
        agreeing = others = 0
        with within(900):
            for structure, m, program in SMALL:
                for group in within_greatest(structure):
                    more = self.check(structure, m, program, group)
                    agreeing, others = agreeing + more[0], others + more[1]
        self.assertGreater(agreeing, 400)
        self.assertGreater(others, 400)

    def test_other_groups_may_learn_more(self):
        # Person 3 holds both parts, and so knows the input of person 2, which nobody told.
        for group in ((3,), (1, 3)):
            self.assertNotIn(group, within_greatest(TWO_PARTS))
            views = all_views(TWO_PARTS, 2, NOT_TOLD, group)
            self.assertFalse(set(views[0,]) & set(views[1,]))

    def test_everybody_who_is_told_is_told_right(self):
        for structure, m, program in SMALL:
            many = coins_taken(structure, program)
            for inputs in itertools.product(range(m), repeat=len(puts_of(program))):
                plain = plain_by_hand(program, inputs, m)
                for coin in range(m):
                    for at, _, number in run_quiet(structure, m, program, inputs, [coin] * many).told:
                        self.assertEqual(number, plain[at])


if __name__ == "__main__":
    unittest.main()
