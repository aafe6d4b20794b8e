"""[1] and [21]: what a view of a loud run lets out, among people who lie, over all rows of coins of small runs."""

import itertools
import random
import unittest
from collections import Counter

from jointhands.loud import run_loud, view_loud
from tests.helpers import within
from tests.loud_runs import loud_coins_taken, sent_by
from tests.runs import first_of, plain_by_hand, puts_of, subsets, within_greatest
from tests.turnings import told_to

TWO_PARTS = ("structure", 3, ((1,), (2,)))
OTHER_ORDER = ("structure", 3, ((3,), (1,)))
UNLIKE = ("structure", 4, ((1, 2), (3,)))
IN_ALL = ("structure", 4, ((1, 4), (2, 4)))
ONE_PART = ("structure", 3, ((1,),))
ANY_OF_FOUR = ("structure", 4, ((1,), (2,), (3,), (4,)))
SQUARE = (("put", 1), ("times", 0, 0), ("tell", 1, (2,)))
PRODUCT = (("put", 1), ("put", 2), ("times", 0, 1), ("tell", 2, (1, 3)))
NOT_TOLD = (("put", 2), ("put", 3), ("times", 0, 1), ("scale", 3, 2))
SUM = (("put", 1), ("put", 2), ("add", 0, 1), ("tell", 2, (1,)), ("less", 2, 0), ("tell", 4, (2, 3)))
# (structure, program): all sound, and by m = 2 with few enough coins to go through all of them.
SMALL = [(TWO_PARTS, SQUARE), (TWO_PARTS, PRODUCT), (TWO_PARTS, NOT_TOLD), (TWO_PARTS, SUM), (OTHER_ORDER, PRODUCT),
         (OTHER_ORDER, NOT_TOLD), (UNLIKE, PRODUCT), (UNLIKE, SUM), (IN_ALL, SUM + (("tell", 0, (4,)),)), (IN_ALL, SQUARE),
         (ONE_PART, PRODUCT), (ANY_OF_FOUR, SUM)]


class NothingMore(unittest.TestCase):
    def all_views(self, structure, program, group, liars, lies):
        """{inputs: (what the group is told, how often each view comes over all rows of coins)}"""
        many = loud_coins_taken(structure, program)
        people = [program[at][1] for at in puts_of(program)]
        found = {}
        for inputs in itertools.product((0, 1), repeat=len(people)):
            views = Counter()
            counting = set()
            for coins in itertools.product((0, 1), repeat=many):
                run = run_loud(structure, 2, program, inputs, coins, liars, lies)
                views[view_loud(run, program, inputs, group)] += 1
                counting.add(tuple(run.inputs))
                self.assertEqual([told for told in run.told if told[1] not in liars],
                                 [told for told in self.plainly(program, run.inputs) if told[1] not in liars])
            # All inputs are put in ahead of all else: what counts hangs on the lies, not on the coins.
            self.assertEqual(len(counting), 1)
            plain = plain_by_hand(program, counting.pop(), 2)
            known = [number for person, number in zip(people, inputs) if person in group]
            found[inputs] = ((known, told_to(program, group, plain)), views)
        return found

    def plainly(self, program, inputs):
        plain = plain_by_hand(program, inputs, 2)
        return [(at, person, plain[at]) for at, row in enumerate(program) if row[0] == "tell" for person in row[2]]

    def check(self, structure, program, group, liars, lies):
        found = self.all_views(structure, program, group, liars, lies)
        agreeing = others = 0
        for one, other in itertools.combinations(found, 2):
            told = f"{structure} {program} {group} {liars} {lies} {one} {other}"
            if found[one][0] == found[other][0]:
                agreeing += 1
                self.assertEqual(found[one][1], found[other][1], told)
            else:
                others += 1
                self.assertFalse(set(found[one][1]) & set(found[other][1]), told)
        return agreeing, others

    def some_lies(self, rng, structure, program, liars):
        if not liars:
            return [()]
        coins = (0,) * loud_coins_taken(structure, program)
        run = run_loud(structure, 2, program, (0,) * len(puts_of(program)), coins, (), ())
        many = sent_by(run, liars)
        return [[rng.randrange(2) for _ in range(many)], [int(rng.randrange(6) == 0) for _ in range(many)]]

    def test_groups_within_greatest_ones(self):
        rng = random.Random(211)
        agreeing = others = 0
        with within(1800):
            for structure, program in SMALL:
                self.assertIsNone(first_of(structure, 3))
                for group in within_greatest(structure):
                    for liars in subsets(group):
                        for lies in self.some_lies(rng, structure, program, liars):
                            more = self.check(structure, program, group, liars, lies)
                            agreeing, others = agreeing + more[0], others + more[1]
        self.assertGreater(agreeing, 100)
        self.assertGreater(others, 100)

    def test_other_groups_may_learn_more(self):
        for group in ((3,), (1, 3)):
            self.assertNotIn(group, within_greatest(TWO_PARTS))
            found = self.all_views(TWO_PARTS, (("put", 2),), group, (), ())
            self.assertFalse(set(found[0,][1]) & set(found[1,][1]))


if __name__ == "__main__":
    unittest.main()
