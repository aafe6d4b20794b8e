"""[4]: hold_talk."""

import itertools
import random
import unittest

from jointhands.talks import hold_talk
from tests.helpers import all_alike, all_held, chained, plain_kinds, random_tree, say

# Side 0: two inputs, two coins. Side 1: three inputs, two coins.
END_A = ("end", ((10, 11), (12, 13)), ((20, 21), (22, 23), (24, 25)))
END_B = ("end", ((30, 31), (32, 33)), ((40, 41), (42, 43), (44, 45)))
END_C = ("end", ((-1, -2), (-3, -4)), ((-5, -6), (-7, -8), (-9, 10 ** 40)))
TALK = ("talk", 2, 2, say(0, ((0, 1), (1, 1)), END_A, say(1, ((0, 1), (1, 1), (0, 0)), END_B, END_C)))

# By inputs x, y and coins i, j.
BY_HAND = {
    (0, 0, 0, 0): ((0,), (10, 20)), (0, 0, 0, 1): ((0,), (10, 21)),
    (0, 0, 1, 0): ((1, 0), (31, 40)), (0, 0, 1, 1): ((1, 1), (-2, -6)),
    (0, 1, 0, 0): ((0,), (10, 22)), (0, 1, 0, 1): ((0,), (10, 23)),
    (0, 1, 1, 0): ((1, 1), (-2, -7)), (0, 1, 1, 1): ((1, 1), (-2, -8)),
    (0, 2, 0, 0): ((0,), (10, 24)), (0, 2, 0, 1): ((0,), (10, 25)),
    (0, 2, 1, 0): ((1, 0), (31, 44)), (0, 2, 1, 1): ((1, 0), (31, 45)),
    (1, 0, 0, 0): ((1, 0), (32, 40)), (1, 0, 0, 1): ((1, 1), (-3, -6)),
    (1, 0, 1, 0): ((1, 0), (33, 40)), (1, 0, 1, 1): ((1, 1), (-4, -6)),
    (1, 1, 0, 0): ((1, 1), (-3, -7)), (1, 1, 0, 1): ((1, 1), (-3, -8)),
    (1, 1, 1, 0): ((1, 1), (-4, -7)), (1, 1, 1, 1): ((1, 1), (-4, -8)),
    (1, 2, 0, 0): ((1, 0), (32, 44)), (1, 2, 0, 1): ((1, 0), (32, 45)),
    (1, 2, 1, 0): ((1, 0), (33, 44)), (1, 2, 1, 1): ((1, 0), (33, 45)),
}


class HoldTalk(unittest.TestCase):
    def test_all_inputs_and_coins_by_hand(self):
        for (x, y, i, j), held in BY_HAND.items():
            with self.subTest(x=x, y=y, i=i, j=j):
                self.assertEqual(hold_talk(TALK, (x, y), (i, j)), held)

    def test_an_end_alone(self):
        for x, y, i, j in itertools.product(range(2), range(3), range(2), range(2)):
            self.assertEqual(hold_talk(("talk", 2, 2, END_A), (x, y), (i, j)),
                             ((), (END_A[1][x][i], END_A[2][y][j])))

    def test_what_is_returned_is_made_of_tuples(self):
        for inputs, coins in (((0, 0), (0, 0)), ((1, 2), (1, 1))):
            held = hold_talk(TALK, inputs, coins)
            self.assertTrue(plain_kinds(held))
            self.assertEqual([len(held), len(held[1])], [2, 2])

    def test_250_trees_one_within_the_other(self):
        # Side 0 sends 1 with its input 1, side 1 sends 0 with its coin 1.
        for way, side, inputs, coins, sent in ((1, 0, (1, 0), (0, 0), (1,) * 249), (1, 0, (0, 0), (0, 1), (0,)),
                                               (0, 1, (0, 0), (0, 1), (0,) * 249), (0, 1, (1, 0), (0, 0), (1,))):
            bits = ((0,), (1,)) if side == 0 else ((1, 0),)
            inner = ("end", ((7,), (8,)), ((9, 10),))
            talk = ("talk", 1, 2, chained(250, inner, way, side, bits))
            with self.subTest(way=way, side=side, inputs=inputs, coins=coins):
                answers = (7 + inputs[0], 9 + coins[1])
                self.assertEqual(hold_talk(talk, inputs, coins), (sent, answers))

    def test_each_of_250_ends(self):
        # 250 inputs would be too many: side 0 counts with its coin, up to 249 says.
        tree = ("end", ((249,) * 250,), ((249,),))
        for number in range(248, -1, -1):
            end = ("end", ((number,) * 250,), ((number,),))
            bits = (tuple(0 if coin == number else 1 for coin in range(250)),)
            tree = say(0, bits, end, tree)
        for coin in range(250):
            sent = (1,) * coin + ((0,) if coin < 249 else ())
            self.assertEqual(hold_talk(("talk", 250, 1, tree), (0, 0), (coin, 0)), (sent, (coin, coin)))

    def test_random_talks(self):
        rng = random.Random(4)
        for _ in range(150):
            inputs = (rng.randrange(1, 4), rng.randrange(1, 4))
            coins = (rng.randrange(1, 4), rng.randrange(1, 4))
            talk = ("talk", coins[0], coins[1], random_tree(rng, 5, inputs, coins, range(-5, 50)))
            for (held, drawn), found in all_held(talk, all_alike(*inputs)).items():
                self.assertEqual(hold_talk(talk, held, drawn), found)


if __name__ == "__main__":
    unittest.main()
