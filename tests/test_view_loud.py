"""[21]: the views of groups of loud runs."""

import random
import unittest

from jointhands.loud import run_loud, view_loud
from tests.loud_runs import NOT_SOUND, SOUND, LoudByHand, drawn_call, loud_view_by_hand, many_lies, sent_by
from tests.runs import subsets

TWO_PARTS = ("structure", 3, ((1,), (2,)))
PROGRAM = (("put", 1), ("tell", 0, (1, 3)))


class Views(unittest.TestCase):
    def test_by_hand(self):
        # Person 1 lies to person 2, so that part 1 is said on the board, and says 6 there instead of 2.
        run = run_loud(TWO_PARTS, 10, PROGRAM, (7,), (2,), (1,), (1, 0, 0, 4))
        board = ((2, 0, 1, 1), (3, 0, 1, 1), (1, 0, 1, 6), (1, 0, 2, 0), (3, 0, 2, 0))
        to_two = ((1, 2, 0, 1, 3), (3, 2, 0, 1, 2))
        views = {
            (): ((), (), (), board),
            (1,): (((0, 7),), (2,), ((3, 1, 0, 2, 5), (2, 1, 1, 1, 6), (3, 1, 1, 1, 6)), board),
            (2,): ((), (), to_two, board),
            (3,): ((), (), ((1, 3, 0, 1, 2), (1, 3, 0, 2, 5), (2, 3, 0, 1, 3), (1, 3, 0, 2, 5)), board),
        }
        self.assertEqual(run.inputs, [1])
        for group, view in views.items():
            self.assertEqual(repr(view_loud(run, PROGRAM, (7,), group)), repr(view))
        self.assertEqual(view_loud(run, PROGRAM, (7,), (1, 2, 3)), (((0, 7),), (2,), tuple(run.letters), board))

    def test_all_groups(self):
        rng = random.Random(21)
        for structure in SOUND + NOT_SOUND:
            for m in (2, 3, 1000):
                call = drawn_call(rng, structure, m, 6)
                _, _, program, inputs, _ = call
                liars = rng.choice(structure[2])
                for lies in ([], rng.choice(many_lies(rng, m, sent_by(LoudByHand(*call), liars)))):
                    run = run_loud(*call, liars, lies)
                    hand = LoudByHand(*call, liars, lies)
                    groups = subsets(range(1, structure[1] + 1))
                    for group in groups if len(groups) <= 32 else rng.sample(groups[1:-1], 12) + [(), groups[-1]]:
                        expected = repr(loud_view_by_hand(hand, program, inputs, group))
                        for given, people in ((inputs, group), (tuple(inputs), list(group))):
                            view = view_loud(run, program, given, people)
                            self.assertEqual(repr(view), expected)
                            self.assertEqual([type(part) for part in view], [tuple] * 4)

    def test_a_run_shows_the_same_though_its_lists_are_modified(self):
        groups = subsets((1, 2, 3))
        inputs, coins, liars, lies = [7], [2], [1], [1, 0, 0, 4]
        run = run_loud(TWO_PARTS, 10, PROGRAM, inputs, coins, liars, lies)
        before = [view_loud(run, PROGRAM, (7,), group) for group in groups]
        for name in ("told", "letters", "taken", "board", "inputs", "dealt"):
            getattr(run, name)[:] = [None]
        inputs[:], coins[:], liars[:], lies[:] = [0], [0], [2], [0]
        self.assertEqual([view_loud(run, PROGRAM, (7,), group) for group in groups], before)


if __name__ == "__main__":
    unittest.main()
