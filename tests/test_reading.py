"""[19]: what is read where people say numbers, of which some may be lies."""

import itertools
import random
import unittest

from jointhands.loud import run_loud
from jointhands.speaking import read_from
from tests.loud_runs import LoudByHand, drawn_call, loud_told, sent_by

# Quiet, but not sound: each part is held by two people, each of whom may be the one who lies.
ANY_ONE = ("structure", 3, ((1,), (2,), (3,)))
# Sound: each part is held by three people, of whom one may lie.
ONE_OF_FOUR = ("structure", 4, ((1,), (2,), (3,), (4,)))


class ByHand(unittest.TestCase):
    def told(self, structure, numbers, liars, lies):
        """What person 1 is told where part 1 is 5 and all others are 0, and the lies begin with the telling."""
        program = (("put", 1), ("tell", 0, (1,)))
        coins = (5,) + (0,) * (len(structure[2]) - 2)
        honest = run_loud(structure, 10, program, (5,), coins, (), ())
        ahead = [letter for letter in honest.letters + honest.board if letter[0] in liars and letter not in
                 [letter for letter in honest.letters if letter[2] == 1]]
        run = run_loud(structure, 10, program, (5,), coins, liars, [0] * len(ahead) + list(lies))
        self.assertEqual([letter[4] for letter in run.letters if letter[2] == 1], numbers)
        return run.told

    def test_two_people_of_whom_each_may_lie(self):
        # Whichever of both numbers is right, the other one may be a lie: the least is read.
        for lie in range(10):
            for liar, numbers in ((2, [(5 + lie) % 10, 5]), (3, [5, (5 + lie) % 10])):
                self.assertEqual(self.told(ANY_ONE, numbers, (liar,), [lie]), [(1, 1, min(numbers))])

    def test_two_people_of_whom_one_does_not_lie_for_sure(self):
        # Person 3 stands in no group: what 3 says is read, be it more or less.
        for lie in range(10):
            told = self.told(("structure", 3, ((1,), (2,))), [(5 + lie) % 10, 5], (2,), [lie])
            self.assertEqual(told, [(1, 1, 5)])

    def test_three_people_of_whom_one_may_lie(self):
        for lie in range(10):
            for liar in (2, 3, 4):
                numbers = [(5 + lie) % 10 if person == liar else 5 for person in (2, 3, 4)]
                self.assertEqual(self.told(ONE_OF_FOUR, numbers, (liar,), [lie]), [(1, 1, 5)])

    def test_liars_who_say_unlike_numbers(self):
        # 2 and 3 may lie, 4 may lie, 1 and 2 may not: so 4 and 9, 4 and 3, and 9 alone are left out in turn.
        structure = ("structure", 4, ((1,), (2, 3), (4,)))
        self.assertEqual(self.told(structure, [9, 4, 5], (2, 3), [4, -1]), [(1, 1, 5)])
        self.assertEqual(self.told(structure, [4, 4, 5], (2, 3), [-1, -1]), [(1, 1, 4)])
        self.assertEqual(self.told(structure, [9, 9, 5], (2, 3), [4, 4]), [(1, 1, 5)])
        self.assertEqual(self.told(structure, [5, 4, 5], (2, 3), [0, -1]), [(1, 1, 5)])


class Everywhere(unittest.TestCase):
    def test_read_from(self):
        for groups in (((1,), (2,)), ((1, 2), (3,)), ((1, 2), (2, 3), (1, 3)), ((1, 2, 3), (4,)), ((1,), (2,), (3,), (4,)),
                       ((1, 4), (2, 3)), ((2,),)):
            for many in (1, 2, 3, 4):
                for people in itertools.combinations((1, 2, 3, 4), many):
                    for numbers in itertools.product(range(3), repeat=many):
                        said = dict(zip(people, numbers))
                        right = [number for number in numbers
                                 if any({person for person in people if said[person] != number} <= set(group)
                                        for group in groups)]
                        self.assertEqual(read_from(said, groups), min(right or numbers))

    def test_the_least_of_all(self):
        # Whoever may lie, two of these numbers would be lies of people who may not lie together.
        self.assertEqual(read_from({1: 5, 2: 4, 3: 9}, ((1,), (2,), (3,))), 4)
        self.assertEqual(read_from({2: 7, 4: 7, 6: 6, 7: 6}, ((2,), (4,), (6,), (7,))), 6)

    def test_products_that_are_laid_open(self):
        rng = random.Random(19)
        opened = 0
        for structure in (ANY_ONE, ("structure", 4, ((1, 2), (3,), (4,))), ("structure", 6, ((1, 2), (3, 4), (5, 6)))):
            for _ in range(150):
                call = drawn_call(rng, structure, rng.choice((2, 3, 10)), 4, 1)
                liars = rng.choice(structure[2])
                lies = [rng.choice((0, 0, 1, 2)) for _ in range(sent_by(LoudByHand(*call), liars))]
                hand = LoudByHand(*call, liars, lies)
                opened += hand.opened_products
                self.assertEqual(loud_told(run_loud(*call, liars, lies)), loud_told(hand))
        self.assertGreater(opened, 100)


if __name__ == "__main__":
    unittest.main()
