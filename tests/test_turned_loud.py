"""[21]: turned coins of loud runs."""

import random
import unittest

from jointhands.errors import BadGroup, BadStructure, BadTurn
from jointhands.loud import run_loud, view_loud
from jointhands.turning import turned_loud
from tests.helpers import within
from tests.loud_runs import NOT_SOUND, SOUND, LoudByHand, drawn_call, drawn_sound, many_lies, sent_by, some_members
from tests.runs import plain_by_hand, within_greatest
from tests.turnings import first_around, others_for, told_to, turned_right

TWO_PARTS = ("structure", 3, ((1,), (2,)))
PROGRAM = (("put", 1), ("put", 3), ("tell", 1, (1, 2)))


class TurnedLoud(unittest.TestCase):
    def drawn(self, seed, rounds=5, rows=8):
        """((structure, m, program, inputs, others, coins, group, liars, lies), ..) for many runs."""
        rng = random.Random(seed)
        structures = SOUND * rounds + [drawn_sound(rng) for _ in range(10 * rounds)]
        with within(900):
            for structure in structures:
                call = drawn_call(rng, structure, rng.choice((2, 2, 3, 7, 1000)), rng.randrange(2, rows), 1, rng.choice((0, 2)))
                structure, m, program, inputs, coins = call
                group = rng.choice(structure[2]) if rng.randrange(3) else rng.choice(within_greatest(structure))
                liars = group if rng.randrange(2) else some_members(rng, group)
                for lies in many_lies(rng, m, sent_by(LoudByHand(*call), liars)) if liars else [[], [1, 2]]:
                    others = others_for(rng, m, program, inputs, group)
                    yield structure, m, program, inputs, others, coins, group, liars, lies

    def test_by_hand(self):
        # Part 1 is turned for person 1, by 6 - 4 where 3 deals its input; for person 2 no coin changes.
        self.assertEqual(turned_loud(TWO_PARTS, 10, PROGRAM, (7, 4), (7, 6), (2, 9), (1,), (), ()), [2, 1])
        self.assertEqual(turned_loud(TWO_PARTS, 10, PROGRAM, (7, 4), (7, 6), (2, 9, 5), (1,), (1,), (3, 4)), [2, 1])
        self.assertEqual(turned_loud(TWO_PARTS, 10, PROGRAM, [7, 4], [8, 6], [2, 9], [], [], []), [3, 1])
        self.assertEqual(turned_loud(TWO_PARTS, 10, PROGRAM, (7, 4), (8, 6), (2, 9), (2,), (2,), (5,)), [2, 9])

    def test_by_the_words(self):
        changed = 0
        for structure, m, program, inputs, others, coins, group, liars, lies in self.drawn(21):
            found = turned_loud(structure, m, program, inputs, others, coins, group, liars, lies)
            before = LoudByHand(structure, m, program, inputs, coins, liars, lies)
            after = LoudByHand(structure, m, program, others, found, liars, lies)
            self.assertIs(type(found), list)
            self.assertEqual(len(found), len(before.taken))
            self.assertTrue(turned_right(structure, m, before, after, coins, found, group))
            changed += found != coins[:len(found)]
        self.assertGreater(changed, 100)

    def test_views(self):
        counts = {"agreeing": 0, "said": 0, "others": 0, "lied about an input": 0}
        for structure, m, program, inputs, others, coins, group, liars, lies in self.drawn(22, 7):
            found = turned_loud(structure, m, program, inputs, others, coins, group, liars, lies)
            before = run_loud(structure, m, program, inputs, coins, liars, lies)
            after = run_loud(structure, m, program, others, found, liars, lies)
            views = [view_loud(run, program, given, group) for run, given in ((before, inputs), (after, others))]
            # The inputs of liars, who are members, count in both runs alike.
            known = [told_to(program, group, plain_by_hand(program, run.inputs, m)) for run in (before, after)]
            self.assertEqual(views[0] == views[1], known[0] == known[1])
            self.assertEqual(views[0][:2] + views[0][3:], views[1][:2] + views[1][3:])
            part = first_around(structure, group)
            for one, other in zip(views[0][2], views[1][2]):
                self.assertEqual(one[:4], other[:4])
                if one != other:
                    self.assertEqual((program[one[2]][0], one[3]), ("tell", part))
            counts["agreeing"] += known[0] == known[1] and inputs != others
            counts["others"] += known[0] != known[1]
            counts["said"] += any(entry[3] for entry in before.board)
            counts["lied about an input"] += before.inputs != inputs
        self.assertGreater(min(counts.values()), 50, counts)

    def test_turning_back_and_on(self):
        rng = random.Random(23)
        for structure, m, program, inputs, others, coins, group, liars, lies in self.drawn(23, 3):
            more = group, liars, lies
            there = turned_loud(structure, m, program, inputs, others, coins, *more)
            self.assertEqual(turned_loud(structure, m, program, others, inputs, there, *more), coins[:len(there)])
            third = others_for(rng, m, program, inputs, group)
            self.assertEqual(turned_loud(structure, m, program, others, third, there, *more),
                             turned_loud(structure, m, program, inputs, third, coins, *more))

    def test_kinds(self):
        for structure, m, program, inputs, others, coins, group, liars, lies in self.drawn(24, 1):
            self.assertEqual(
                turned_loud(structure, m, program, inputs, others, coins, group, liars, lies),
                turned_loud(structure, m, program, tuple(inputs), tuple(others), tuple(coins), list(group), list(liars),
                            tuple(lies)))

    def refused(self, error, *arguments):
        with self.assertRaises(error) as caught:
            turned_loud(*arguments)
        self.assertIs(type(caught.exception), error)

    def test_structures_that_are_not_sound(self):
        for structure in NOT_SOUND + [("structure", 2, ((1,), (2,)))]:
            self.refused(BadStructure, structure, 10, (("number", 1),), (), (), (), (), (), ())
            self.refused(BadStructure, structure, *[None] * 8)
        for structure in SOUND:
            self.assertEqual(turned_loud(structure, 10, (("number", 1),), (), (), (), (), (), ()), [])

    def test_liars_are_members(self):
        structure = ("structure", 7, ((1, 2), (3, 4), (5, 6)))
        program, coins = (("put", 7), ("tell", 0, (1,))), (1, 2)
        for group, liars in (((1, 2), ()), ((1, 2), (1,)), ((1, 2), (1, 2)), ((), ()), ((4,), (4,))):
            self.assertEqual(len(turned_loud(structure, 9, program, (3,), (4,), coins, group, liars, (1,))), 2)
        for group, liars in (((1,), (1, 2)), ((1,), (2,)), ((), (3,)), ((1, 2), (3,)), ((3, 4), (1, 2)), ((1, 2), (1, 3)),
                             ((1, 2), (7,)), ((1, 2), (2, 1)), ((1, 2), None), ((1, 3), (1,)), ((7,), ()), (None, ())):
            for others, lies in (((4,), (1,)), ((4,), None)):
                self.refused(BadGroup, structure, 9, program, (3,), others, coins, group, liars, lies)

    def test_bad_turns(self):
        for others, group in (((6, 4), (1,)), ((6, 5), [1])):
            self.refused(BadTurn, TWO_PARTS, 10, PROGRAM, (7, 4), others, (2, 9), group, group, (1,))
            self.refused(BadTurn, TWO_PARTS, 10, PROGRAM, (7, 4), others, (2, 9), group, (), ())
            self.assertEqual(len(turned_loud(TWO_PARTS, 10, PROGRAM, (7, 4), others, (2, 9), (2,), (), ())), 2)


if __name__ == "__main__":
    unittest.main()
