"""[15]: the views of groups of quiet runs."""

import random
import unittest

from jointhands.quiet import run_quiet, view_quiet
from tests.runs import QUIET, ByHand, coins_taken, drawn_program, puts_of, subsets, view_by_hand

TWO_PARTS = ("structure", 3, ((1,), (2,)))
PROGRAM = (("put", 1), ("put", 3), ("times", 0, 1), ("number", -3), ("less", 2, 3), ("tell", 4, (1, 2)))
COINS = (2, 9, 5, 6, 8)


class Views(unittest.TestCase):
    def test_by_hand(self):
        run = run_quiet(TWO_PARTS, 10, PROGRAM, (7, 4), COINS)
        views = {
            (1,): (((0, 7),), (2, 5), ((3, 1, 1, 2, 5), (2, 1, 2, 2, 2), (3, 1, 2, 2, 7), (2, 1, 5, 1, 2))),
            (2,): ((), (6,), ((1, 2, 0, 1, 2), (3, 2, 1, 1, 9), (1, 2, 2, 1, 5), (3, 2, 2, 1, 8), (1, 2, 5, 2, 9))),
            (3,): (((1, 4),), (9, 8), ((1, 3, 0, 1, 2), (1, 3, 0, 2, 5), (1, 3, 2, 1, 5), (1, 3, 2, 2, 0),
                                       (2, 3, 2, 1, 6), (2, 3, 2, 2, 2))),
            (): ((), (), ()),
        }
        for group, view in views.items():
            self.assertEqual(repr(view_quiet(run, PROGRAM, (7, 4), group)), repr(view))
        everything = view_quiet(run, PROGRAM, (7, 4), (1, 2, 3))
        self.assertEqual(everything, (((0, 7), (1, 4)), COINS, tuple(run.letters)))

    def test_inputs_are_told_with_their_rows(self):
        program = (("number", 1), ("put", 2), ("tell", 1, (1,)), ("put", 1), ("put", 2), ("add", 3, 4), ("put", 3))
        run = run_quiet(TWO_PARTS, 10, program, [5, 6, 7, 5], [0] * 4)
        for group, seen in (((1,), ((3, 6),)), ((2,), ((1, 5), (4, 7))), ((3,), ((6, 5),)),
                            ((1, 2), ((1, 5), (3, 6), (4, 7))), ((2, 3), ((1, 5), (4, 7), (6, 5)))):
            self.assertEqual(view_quiet(run, program, [5, 6, 7, 5], group)[0], seen)

    def test_all_groups(self):
        rng = random.Random(15)
        for structure in QUIET:
            n = structure[1]
            for m in (2, 3, 1000):
                program = drawn_program(rng, n, 9)
                inputs = [rng.randrange(m) for _ in puts_of(program)]
                coins = [rng.randrange(m) for _ in range(coins_taken(structure, program) + rng.randrange(2))]
                run = run_quiet(structure, m, program, inputs, coins)
                by_hand = ByHand(structure, m, program, inputs, coins)
                for group in subsets(range(1, n + 1)):
                    expected = repr(view_by_hand(by_hand, program, inputs, group))
                    for given, people in ((inputs, group), (tuple(inputs), list(group))):
                        view = view_quiet(run, program, given, people)
                        self.assertEqual(repr(view), expected)
                        self.assertEqual([type(part) for part in view], [tuple] * 3)

    def test_a_run_shows_the_same_though_its_lists_are_modified(self):
        run = run_quiet(TWO_PARTS, 10, PROGRAM, [7, 4], list(COINS))
        before = [view_quiet(run, PROGRAM, (7, 4), group) for group in subsets((1, 2, 3))]
        run.letters.clear()
        run.taken.append((1, 5))
        run.parts[0] = run.dealt[0] = run.told[0] = None
        self.assertEqual([view_quiet(run, PROGRAM, (7, 4), group) for group in subsets((1, 2, 3))], before)
        self.assertEqual(run_quiet(TWO_PARTS, 10, PROGRAM, [7, 4], list(COINS)).letters[0], (1, 2, 0, 1, 2))

    def test_what_was_handed_in_may_be_modified_afterwards(self):
        inputs, coins, group = [7, 4], list(COINS), [1]
        run = run_quiet(TWO_PARTS, 10, PROGRAM, inputs, coins)
        inputs[:] = [0, 0]
        coins[:] = []
        view = view_quiet(run, PROGRAM, [7, 4], group)
        group.append(2)
        self.assertEqual(view, (((0, 7),), (2, 5), ((3, 1, 1, 2, 5), (2, 1, 2, 2, 2), (3, 1, 2, 2, 7), (2, 1, 5, 1, 2))))
        self.assertEqual(run.parts[:2], [(2, 5), (9, 5)])


if __name__ == "__main__":
    unittest.main()
