"""[5]: flaw_of."""

import itertools
import random
import unittest

from jointhands.errors import BadTable, BadTalk
from jointhands.talks import check_flaw, check_talk, flaw_of
from tests.helpers import (all_alike, all_flaws, all_tables, bushy, chained, composed_table, plain_end, plain_kinds,
                           random_tree, say, strangers, told_alike, with_right_answers, within, written_talk)

ONE = ((0,),)


def shown(number_of_side_0, table):
    """A talk in which side 0 tells whether its input is 0, and both answer so; two inputs and y columns."""
    y = len(table[0])
    ends = [("end", ((answer,), (answer,)), ((answer,),) * y) for answer in number_of_side_0]
    return ("talk", 1, 1, say(0, ((1,), (0,)), ends[1], ends[0]))


class ByHand(unittest.TestCase):
    def test_no_flaw(self):
        self.assertIsNone(flaw_of(("talk", 1, 1, ("end", ((5,), (5,)), ((5,),))), ((5,), (5,))))
        table = ((3, 3), (4, 4))
        self.assertIsNone(flaw_of(shown((3, 4), table), table))

    def test_wrong_answers_of_side_0(self):
        table = ((3, 3), (4, 4))
        talk = ("talk", 1, 1, say(0, ((1,), (0,)), ("end", ((9,), (5,)), ((4,), (4,))), ("end", ((3,), (9,)),
                                                                                      ((3,), (3,)))))
        self.assertEqual(flaw_of(talk, table), ("wrong", (1, 0), (0, 0), 0))

    def test_wrong_answers_of_side_1(self):
        table = ((3, 3), (4, 4))
        talk = ("talk", 1, 1, say(0, ((1,), (0,)), ("end", ((4,), (4,)), ((4,), (5,))), ("end", ((3,), (3,)),
                                                                                      ((3,), (3,)))))
        self.assertEqual(flaw_of(talk, table), ("wrong", (1, 1), (0, 0), 1))

    def test_wrong_answers_of_both(self):
        talk = ("talk", 2, 3, ("end", ((7, 0),), ((7, 7, 0), (7, 7, 7))))
        # Coin 0 of side 0 is right, and so are the first two coins of side 1.
        self.assertEqual(flaw_of(talk, ((7, 7),)), ("wrong", (0, 0), (0, 2), 1))
        talk = ("talk", 2, 3, ("end", ((0, 7),), ((0, 7, 7), (7, 7, 7))))
        self.assertEqual(flaw_of(talk, ((7, 7),)), ("wrong", (0, 0), (0, 0), 0))

    def test_inputs_ahead_of_coins_ahead_of_sides(self):
        # Side 1 is wrong with inputs (0, 1) and its coin 1; side 0 with inputs (1, 0) and all coins.
        talk = ("talk", 2, 2, ("end", ((7, 7), (0, 0)), ((7, 7), (7, 0))))
        self.assertEqual(flaw_of(talk, all_alike(2, 2, 7)), ("wrong", (0, 1), (0, 1), 1))
        # Side 0 is wrong with coin 1, side 1 with coin 1.
        talk = ("talk", 2, 2, ("end", ((7, 0),), ((7, 0),)))
        self.assertEqual(flaw_of(talk, ((7,),)), ("wrong", (0, 0), (0, 1), 1))

    def test_wrong_ahead_of_learning(self):
        # Side 1 learns the input of side 0 at once; the last answer of all is wrong.
        end = plain_end((2, 2), (2, 2), 7)
        last = ("end", ((7, 7), (7, 7)), ((7, 7), (7, 8)))
        talk = ("talk", 2, 2, say(0, ((0, 0), (1, 1)), end, last))
        self.assertEqual(flaw_of(talk, all_alike(2, 2, 7)), ("wrong", (1, 1), (0, 1), 1))

    def test_side_0_learns(self):
        end = plain_end((2, 3), (1, 1), 7)
        talk = ("talk", 1, 1, say(1, ((0,), (0,), (1,)), end, end))
        self.assertEqual(flaw_of(talk, all_alike(2, 3, 7)), ("learns", 0, 0, 0, (0, 2), (0,), (1, 0)))

    def test_side_1_learns(self):
        end = plain_end((3, 2), (1, 1), 7)
        talk = ("talk", 1, 1, say(0, ((1,), (0,), (0,)), end, end))
        self.assertEqual(flaw_of(talk, all_alike(3, 2, 7)), ("learns", 1, 0, 0, (0, 1), (0,), (0, 1)))

    def test_both_learn(self):
        end = plain_end((2, 2), (1, 1), 7)
        told = say(1, ((1,), (0,)), end, end)
        talk = ("talk", 1, 1, say(0, ((1,), (0,)), told, told))
        self.assertEqual(flaw_of(talk, all_alike(2, 2, 7)), ("learns", 0, 0, 0, (0, 1), (1, 0), (0, 1)))

    def test_nothing_is_learned_where_the_answers_differ(self):
        table = ((3, 3, 4), (5, 5, 6))
        # Side 1 tells whether its input is 2; side 0 tells its input.
        trees = []
        for at in (0, 1):
            pair = [("end", ((answer,),) * 2, ((answer,),) * 3) for answer in (table[0][2 * at], table[1][2 * at])]
            trees.append(say(0, ((0,), (1,)), pair[0], pair[1]))
        self.assertIsNone(flaw_of(("talk", 1, 1, say(1, ((0,), (0,), (1,)), trees[0], trees[1])), table))
        # Told ahead of this whether its input is 0, side 0 knows more than its answers.
        both = say(1, ((0,), (0,), (1,)), trees[0], trees[1])
        flaw = flaw_of(("talk", 1, 1, say(1, ((1,), (0,), (0,)), both, both)), table)
        self.assertEqual(flaw, ("learns", 0, 0, 0, (0, 1), (0, 0, 0), (0, 1)))

    def test_a_coin_that_hides_an_input(self):
        end = plain_end((2, 1), (2, 1), 7)
        hidden = ("talk", 2, 1, say(0, ((0, 1), (1, 0)), end, end))
        self.assertIsNone(flaw_of(hidden, ((7,), (7,))))
        end = plain_end((2, 1), (3, 1), 7)
        half = ("talk", 3, 1, say(0, ((0, 0, 1), (1, 0, 1)), end, end))
        self.assertEqual(flaw_of(half, ((7,), (7,))), ("learns", 1, 0, 0, (0, 1), (0,), (2, 1)))

    def test_a_coin_that_shows_what_another_has_hidden(self):
        end = plain_end((1, 2), (1, 2), 7)
        shown_after = say(1, ((0, 1), (0, 1)), end, end)
        talk = ("talk", 1, 2, say(1, ((0, 1), (1, 0)), shown_after, shown_after))
        self.assertEqual(flaw_of(talk, ((7, 7),)), ("learns", 0, 0, 0, (0, 1), (0, 0), (1, 0)))

    def test_rows_of_bits_that_one_of_both_never_sends(self):
        # With input 1 alone, coin 1 of side 1 sends (1, 1); with input 0 nothing sends 1 twice.
        end = plain_end((1, 2), (1, 4), 7)
        talk = ("talk", 1, 4, say(1, ((0, 0, 1, 1), (0, 0, 1, 1)), end, say(1, ((0, 0, 0, 0), (0, 0, 0, 1)), end, end)))
        self.assertEqual(flaw_of(talk, ((7, 7),)), ("learns", 0, 0, 0, (0, 1), (1, 0), (2, 1)))
        talk = ("talk", 1, 4, say(1, ((0, 0, 1, 1), (0, 0, 1, 1)), end, say(1, ((0, 0, 0, 0), (1, 1, 1, 1)), end, end)))
        self.assertEqual(flaw_of(talk, ((7, 7),)), ("learns", 0, 0, 0, (0, 1), (1, 0), (2, 0)))
        talk = ("talk", 1, 4, say(1, ((0, 0, 1, 1), (0, 0, 1, 1)), end, say(1, ((1, 1, 1, 1), (0, 0, 0, 0)), end, end)))
        self.assertEqual(flaw_of(talk, ((7, 7),)), ("learns", 0, 0, 0, (0, 1), (1, 0), (0, 2)))

    def test_bits_of_unlike_lengths_are_ordered_as_tuples(self):
        end = plain_end((1, 2), (1, 1), 7)
        inner = say(1, ((1,), (0,)), end, end)
        # Input 0 sends (0, 1), input 1 sends (1,).
        talk = ("talk", 1, 1, say(1, ((0,), (1,)), inner, end))
        self.assertEqual(flaw_of(talk, ((7, 7),)), ("learns", 0, 0, 0, (0, 1), (0, 1), (1, 0)))

    def test_the_side_that_learns_sends_bits_of_its_coin(self):
        # Side 0 asks, by its coin, for an input told or nothing: with coin 1 alone it learns.
        end = plain_end((1, 2), (2, 1), 7)
        talk = ("talk", 2, 1, say(0, ((0, 1),), end, say(1, ((0,), (1,)), end, end)))
        self.assertEqual(flaw_of(talk, ((7, 7),)), ("learns", 0, 0, 1, (0, 1), (1, 0), (1, 0)))

    def test_the_table_is_looked_at_first_then_the_talk(self):
        talk = ("talk", 1, 1, ("end", ONE, ONE))
        for table in strangers():
            with self.assertRaises(BadTable):
                flaw_of(talk, table)
            with self.assertRaises(BadTable):
                flaw_of(None, table)
        for other in strangers():
            with self.assertRaises(BadTalk):
                flaw_of(other, ((0,),))
        with self.assertRaises(BadTalk):
            flaw_of(talk, ((0, 0),))
        with self.assertRaises(BadTalk):
            flaw_of(("talk", 1, 1, ("end", ((True,),), ONE)), ((0,),))


class BySearch(unittest.TestCase):
    """Against a search of the tests' own over all inputs, coins and rows of bits."""

    def compare(self, talk, table):
        flaws = all_flaws(talk, table)
        found = flaw_of(talk, table)
        self.assertEqual(found, flaws[0] if flaws else None, (talk, table))
        self.assertTrue(plain_kinds(found))
        if flaws:
            self.assertEqual(flaws[0], min(flaws, key=lambda flaw: (flaw[0] != "wrong",) + flaw[1:]))
        return flaws

    def test_random_talks(self):
        rng = random.Random(51)
        kinds = {"wrong": 0, "learns": 0}
        for _ in range(250):
            inputs = (rng.randrange(1, 4), rng.randrange(1, 4))
            coins = (rng.randrange(1, 4), rng.randrange(1, 4))
            table = tuple(tuple(rng.randrange(2) for _ in range(inputs[1])) for _ in range(inputs[0]))
            talk = ("talk", coins[0], coins[1], random_tree(rng, 4, inputs, coins, (0, 0, 1)))
            for flaw in self.compare(talk, table)[:1]:
                kinds[flaw[0]] += 1
        self.assertGreater(kinds["wrong"], 50)

    def test_random_talks_with_right_answers(self):
        rng = random.Random(52)
        seen = {"wrong": 0, 0: 0, 1: 0, None: 0}
        for _ in range(500):
            inputs = (rng.randrange(1, 4), rng.randrange(1, 4))
            coins = (rng.randrange(1, 5), rng.randrange(1, 4))
            table = tuple(tuple(rng.choice((0, 0, 0, 1)) for _ in range(inputs[1])) for _ in range(inputs[0]))
            tree = with_right_answers(random_tree(rng, 5, inputs, coins, (0,)), table, coins)
            flaws = self.compare(("talk", coins[0], coins[1], tree), table)
            first = flaws[0] if flaws else (None, None)
            seen["wrong" if first[0] == "wrong" else first[1]] += 1
        for kind, many in seen.items():
            self.assertGreater(many, 20, kind)

    def test_tables_of_one_answer(self):
        rng = random.Random(53)
        sides = {0: 0, 1: 0, None: 0}
        for _ in range(250):
            inputs = (rng.randrange(1, 4), rng.randrange(1, 4))
            coins = (rng.choice((1, 2, 2, 4)), rng.choice((1, 2, 2, 4)))
            tree = random_tree(rng, 4, inputs, coins, (7,))
            flaws = self.compare(("talk", coins[0], coins[1], tree), all_alike(*inputs, 7))
            sides[flaws[0][1] if flaws else None] += 1
        for side, many in sides.items():
            self.assertGreater(many, 15, side)

    def test_talks_with_one_thing_changed(self):
        rng = random.Random(54)
        for _ in range(150):
            table = composed_table(rng, rng.randrange(1, 5), rng.randrange(1, 5), False)
            talk = written_talk(table)
            self.assertEqual(self.compare(talk, table), [])
            x, y = rng.randrange(len(table)), rng.randrange(len(table[0]))
            row = table[x][:y] + (table[rng.randrange(len(table))][rng.randrange(len(table[0]))],) + table[x][y + 1:]
            other = table[:x] + (row,) + table[x + 1:]
            self.compare(talk, other)
            self.compare(("talk", 1, 1, with_right_answers(talk[3], other, (1, 1))), other)

    def test_all_small_talks_for_all_small_tables(self):
        def trees(depth, x, y):
            found = [plain_end((x, y), (1, 1))]
            if depth > 1:
                inner = trees(depth - 1, x, y)
                for side, many in ((0, x), (1, y)):
                    for bits in itertools.product(((0,), (1,)), repeat=many):
                        found += [say(side, bits, one, other) for one in inner for other in inner]
            return found

        for x, y in ((1, 2), (2, 1), (1, 3), (2, 2)):
            for tree in trees(2, x, y) + trees(3, x, y)[::17]:
                for table in all_tables(x, y):
                    talk = ("talk", 1, 1, with_right_answers(tree, table, (1, 1)))
                    self.compare(talk, table)


class Large(unittest.TestCase):
    """Near the greatest product that [5] names, and near the greatest trees."""

    def noisy(self, x, coins, told):
        """A talk for a table of x rows that hang on the row: side 0 tells its row, and both sides send coins."""
        def ended(row):
            return ("end", told_alike(row, x, coins[0]), told_alike(row, len(told), coins[1]))

        def noise(row):
            tree = ended(row)
            for bit in (1, 2, 4):
                bits0 = tuple(tuple(coin // bit % 2 for coin in range(coins[0])) for _ in range(x))
                tree = say(0, bits0, tree, tree)
            return say(1, told, tree, tree)

        tree = noise(x - 1)
        for row in range(x - 2, -1, -1):
            bits = tuple((1 if number == row else 0,) * coins[0] for number in range(x))
            tree = say(0, bits, tree, noise(row))
        return ("talk", coins[0], coins[1], tree)

    def test_a_product_of_250000(self):
        for x, y, coins in ((10, 10, (50, 50)), (25, 25, (20, 20)), (40, 50, (25, 5)), (100, 100, (5, 5)),
                            (1, 100, (50, 50)), (100, 1, (50, 50)), (4, 4, (125, 125)), (100, 9, (1, 256))):
            self.assertLessEqual(x * y * coins[0] * coins[1], 250000)
            table = tuple((row,) * y for row in range(x))
            told = tuple(tuple((coin + column) // 3 % 2 for coin in range(coins[1])) for column in range(y))
            even = tuple(tuple((coin + 1) // 3 % 2 for coin in range(coins[1])) for column in range(y))
            with self.subTest(x=x, y=y, coins=coins), within(240):
                self.assertIsNone(flaw_of(self.noisy(x, coins, even), table))
                # The last input of side 1 sends one bit otherwise, or its last answer is wrong.
                odd = even[:-1] + (even[-1][:-1] + (1 - even[-1][-1],),)
                talk = self.noisy(x, coins, odd)
                flaw = flaw_of(talk, table)
                if y == 1:
                    self.assertIsNone(flaw)
                else:
                    self.assertEqual(flaw[:5], ("learns", 0, 0, 0, (0, y - 1)))
                    self.assertTrue(check_flaw(talk, table, flaw))
                last = table[:-1] + (table[-1][:-1] + (x,),)
                self.assertEqual(flaw_of(self.noisy(x, coins, told), last), ("wrong", (x - 1, y - 1), (0, 0), 0))

    def test_the_last_flaw_of_all(self):
        x, y, coins = 10, 10, (50, 50)
        table = all_alike(x, y, 7)
        end = plain_end((x, y), coins, 7)
        # Side 1's last input and coin answers otherwise.
        wrong = end[:2] + (end[2][:-1] + (end[2][-1][:-1] + (8,),),)
        with within(120):
            self.assertEqual(flaw_of(("talk", 50, 50, wrong), table), ("wrong", (0, 9), (0, 49), 1))
        wrong = (end[0], end[1][:-1] + (end[1][-1][:-1] + (8,),), end[2])
        with within(120):
            self.assertEqual(flaw_of(("talk", 50, 50, wrong), table), ("wrong", (9, 0), (49, 0), 0))
        # Side 1 alone learns, with its last coin alone, and from the last coin of side 0's last input alone.
        asked = ((0,) * 49 + (1,),) * 10
        told = told_alike(0, 9, 50) + ((0,) * 49 + (1,),)
        tree = say(1, asked, end, say(0, told, end, end))
        with within(120):
            self.assertEqual(flaw_of(("talk", 50, 50, tree), table),
                             ("learns", 1, 0, 49, (0, 9), (1, 0), (50, 49)))

    def test_many_and_deep_trees(self):
        # 40000 trees at most, 250 deep at most, each of which is reached with some coins.
        coins = (250, 10)
        end = plain_end((10, 10), coins, 3)
        tree = end
        for number in range(248, -1, -1):
            bits = (tuple(0 if coin == number else 1 for coin in range(250)),) * 10
            tree = say(0, bits, end, tree)
        table = all_alike(10, 10, 3)
        with within(240):
            self.assertIsNone(flaw_of(("talk", 250, 10, tree), table))
        end = plain_end((5, 5), (100, 100), 3)
        table = all_alike(5, 5, 3)
        bits = (tuple(coin % 2 for coin in range(100)),) * 5
        tree = bushy(19999, end, 0, bits)
        with within(240):
            self.assertIsNone(flaw_of(("talk", 100, 100, tree), table))
        tree = chained(250, end, 0, 1, (tuple(coin % 2 for coin in range(99)) + (0,),) * 4 + ((0,) * 100,))
        with within(240):
            flaw = flaw_of(("talk", 100, 100, tree), table)
            self.assertEqual(flaw, ("learns", 0, 0, 0, (0, 4), (0,) * 249, (51, 100)))

    def test_a_table_of_10000_answers(self):
        table = tuple(tuple(100 * row + column for column in range(100)) for row in range(100))
        talk = written_talk(table)
        with within(240):
            self.assertIsNone(check_talk(talk, table))
            self.assertIsNone(flaw_of(talk, table))
        other = table[:-1] + (table[-1][:-1] + (5,),)
        with within(240):
            self.assertEqual(flaw_of(talk, other), ("wrong", (99, 99), (0, 0), 0))


if __name__ == "__main__":
    unittest.main()
