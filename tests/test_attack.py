"""[21]: attacks upon the quiet structures that are not sound."""

import itertools
import random
import unittest

from jointhands.errors import BadStructure
from jointhands.loud import attack, run_loud
from tests.helpers import strangers
from tests.loud_runs import NOT_SOUND, SOUND, LoudByHand, drawn_not_sound, drawn_sound, loud_told
from tests.runs import drawn_quiet, first_of, is_structure, subsets, wrong_row


class Attacks(unittest.TestCase):
    def check(self, structure):
        """Whether there is an attack; it is tried."""
        found = attack(structure)
        self.assertEqual(found is None, first_of(structure, 3) is None, structure)
        if found is None:
            return False
        self.assertIs(type(found), tuple)
        program, inputs, coins, liars, lies, person = found
        self.assertIsNone(wrong_row(program, structure[1]))
        self.assertEqual([row[0] for row in program], ["put", "tell"])
        self.assertTrue(any(set(liars) <= set(group) for group in structure[2]))
        self.assertEqual(list(liars), sorted(set(liars)))
        self.assertNotIn(person, liars)
        self.assertIn(person, range(1, structure[1] + 1))
        run = run_loud(structure, 2, program, inputs, coins, liars, lies)
        hand = LoudByHand(structure, 2, program, inputs, coins, liars, lies)
        self.assertEqual(loud_told(run), loud_told(hand))
        told = [number for _, other, number in run.told if other == person]
        # Not the plain value, neither that of the given input nor that of the one that counts.
        self.assertEqual(told, [1 - inputs[0]])
        self.assertEqual(told, [1 - run.inputs[0]])
        return True

    def test_structures_of_the_tests(self):
        for structure in SOUND:
            self.assertFalse(self.check(structure))
        for structure in NOT_SOUND:
            self.assertTrue(self.check(structure))

    def test_all_small_structures(self):
        attacked = 0
        for n in (2, 3, 4):
            possible = [group for group in subsets(range(1, n + 1)) if 1 <= len(group) < n]
            for many in range(1, 5):
                for groups in itertools.permutations(possible, many):
                    structure = ("structure", n, groups)
                    if is_structure(structure):
                        if first_of(structure, 2) is None:
                            attacked += self.check(structure)
                        else:
                            self.refused(structure)
        self.assertGreater(attacked, 50)

    def test_drawn_structures(self):
        rng = random.Random(21)
        for _ in range(150):
            self.check(drawn_quiet(rng))
            self.assertFalse(self.check(drawn_sound(rng, None, 12)))
            self.assertTrue(self.check(drawn_not_sound(rng, None, 12)))

    def test_in_any_order_of_the_groups(self):
        for groups in itertools.permutations(((1, 2), (3, 4), (5,), (2, 3))):
            self.assertTrue(self.check(("structure", 5, groups)))

    def refused(self, structure):
        with self.assertRaises(BadStructure) as caught:
            attack(structure)
        self.assertIs(type(caught.exception), BadStructure)

    def test_what_is_refused(self):
        for structure in strangers() + [("structure", 3, ((1,), (2, 3))), ("structure", 3, ((1, 2), (2, 3))),
                                        ("structure", 2, ((1,), (2,))), ("structure", 3, ()), ["structure", 3, ((1,),)],
                                        ("structure", 9, ((1,),)), ("structure", 3, ((1,), (1, 2)))]:
            self.refused(structure)

    def test_the_same_again(self):
        for structure in NOT_SOUND:
            self.assertEqual(repr(attack(structure)), repr(attack(structure)))


if __name__ == "__main__":
    unittest.main()
