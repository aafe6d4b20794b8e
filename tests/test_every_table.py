"""[1] and the words in bold of [6]: for every table exactly one of the two, and what a talk without flaw lets out."""

import itertools
import random
import unittest

from jointhands.knots import check_knot, knot_of, last_part, talk_for
from jointhands.talks import check_flaw, flaw_of
from tests.helpers import (all_held, all_tables, composed_table, parts_that_stay, plain_end, random_told, random_tree,
                           say, take_apart, with_right_answers)


def tried_talks(x, y):
    """Some talks for tables of x rows and y columns, with answers of 0 throughout."""
    def tells(side, coins, after):
        """A side tells its input, bit by bit."""
        many = (x, y)[side]
        tree = after
        for bit in (1, 2):
            if bit < many:
                bits = tuple((number // bit % 2,) * coins[side] for number in range(many))
                tree = say(side, bits, tree, tree)
        return tree

    found = []
    for coins in ((1, 1), (2, 1), (1, 3)):
        end = plain_end((x, y), coins)
        hidden = say(0, tuple(tuple((number + coin) % 2 for coin in range(coins[0])) for number in range(x)), end, end)
        for tree in (end, tells(0, coins, end), tells(1, coins, end), tells(0, coins, tells(1, coins, end)), hidden):
            found.append(("talk", coins[0], coins[1], tree))
    return found


def all_trees(depth, x, y, coins):
    """All trees at most so deep, with answers of 0."""
    found = [plain_end((x, y), coins)]
    if depth > 1:
        inner = all_trees(depth - 1, x, y, coins)
        for side, many in ((0, x), (1, y)):
            for row in itertools.product((0, 1), repeat=many * coins[side]):
                bits = tuple(row[at:at + coins[side]] for at in range(0, len(row), coins[side]))
                found += [say(side, bits, one, other) for one in inner for other in inner]
    return found


class ExactlyOne(unittest.TestCase):
    def one_of_both(self, table, talks):
        knot = knot_of(table)
        if knot is None:
            self.assertIsNone(flaw_of(talk_for(table), table), table)
            self.assertFalse([part for part in parts_that_stay(take_apart(table)) if part[0] == "knot"], table)
            return
        self.assertIs(check_knot(table, knot), True, table)
        for talk in talks:
            right = talk[:3] + (with_right_answers(talk[3], table, talk[1:3]),)
            for tried in (talk, right):
                flaw = flaw_of(tried, table)
                self.assertIsNotNone(flaw, table)
                self.assertIs(check_flaw(tried, table, flaw), True, table)

    def test_all_small_tables(self):
        for x, y, most in ((1, 1, 1), (1, 2, 2), (2, 1, 2), (1, 4, 4), (4, 1, 4), (2, 2, 4), (2, 3, 6), (3, 2, 6)):
            talks = tried_talks(x, y)
            for table in all_tables(x, y, most):
                self.one_of_both(table, talks)

    def test_all_tables_of_three_rows_and_columns(self):
        talks = tried_talks(3, 3)
        for table in all_tables(3, 3, 2):
            self.one_of_both(table, talks[:8:3])
        for table in all_tables(3, 3, 4):
            self.one_of_both(table, talks[3:4])

    def test_the_few_and_the_many(self):
        # Of the 15 tables of two rows and columns (but for names) just the four like AND have a knot.
        self.assertEqual([table for table in all_tables(2, 2) if knot_of(table) is not None],
                         [((0, 0), (0, 1)), ((0, 0), (1, 0)), ((0, 1), (0, 0)), ((0, 1), (1, 1))])

    def test_tables_put_together(self):
        rng = random.Random(62)
        for _ in range(150):
            x, y = rng.randrange(1, 5), rng.randrange(1, 5)
            self.one_of_both(composed_table(rng, x, y, True), tried_talks(x, y)[3:9])


class LetOut(unittest.TestCase):
    """A talk without flaw lets out just the last part."""

    def looked_at(self, talk, table):
        """1 if the talk is without flaw for the table, otherwise 0."""
        flaw = flaw_of(talk, table)
        if flaw is not None:
            self.assertIs(check_flaw(talk, table, flaw), True)
            return 0
        self.assertIsNone(knot_of(table), (talk, table))
        sent = {}
        for (inputs, _), (bits, _) in all_held(talk, table).items():
            counts = sent.setdefault(inputs, {})
            counts[bits] = counts.get(bits, 0) + 1
        parts = {inputs: last_part(table, inputs) for inputs in sent}
        for one, other in itertools.combinations(sent, 2):
            if parts[one] == parts[other]:
                self.assertEqual(sent[one], sent[other], (talk, table))
            else:
                self.assertFalse(set(sent[one]) & set(sent[other]), (talk, table))
        return 1

    def test_the_talks_that_are_made(self):
        rng = random.Random(63)
        tables = all_tables(2, 2) + all_tables(2, 3) + all_tables(3, 2) + all_tables(3, 3, 3)[::7]
        tables += [composed_table(rng, rng.randrange(1, 7), rng.randrange(1, 7), False) for _ in range(60)]
        for table in tables:
            if knot_of(table) is None:
                self.assertEqual(self.looked_at(talk_for(table), table), 1)

    def test_all_small_talks(self):
        for x, y, coins, depth in ((2, 2, (1, 1), 3), (1, 3, (1, 1), 3), (3, 1, (1, 1), 3), (2, 2, (2, 1), 2),
                                   (2, 2, (2, 2), 2), (1, 2, (1, 3), 2), (2, 1, (2, 1), 3)):
            trees = all_trees(depth, x, y, coins)
            flawless = 0
            for table in all_tables(x, y):
                for tree in trees:
                    tree = with_right_answers(tree, table, coins)
                    flawless += self.looked_at(("talk", coins[0], coins[1], tree), table)
            self.assertGreater(flawless, 0)

    def test_random_talks(self):
        rng = random.Random(64)
        flawless = 0
        for _ in range(1500):
            x, y = rng.randrange(1, 4), rng.randrange(1, 4)
            coins = (rng.randrange(1, 3), rng.randrange(1, 3))
            table = composed_table(rng, x, y, rng.randrange(4) == 0)
            tree = with_right_answers(random_tree(rng, 4, (x, y), coins, (0,)), table, coins)
            flawless += self.looked_at(("talk", coins[0], coins[1], tree), table)
        self.assertGreater(flawless, 50)

    def test_made_talks_with_coins_said_on_the_way(self):
        rng = random.Random(65)

        def noisy(tree, sizes, coins):
            """The tree with coins, and with says that hang on coins alone here and there."""
            if tree[0] == "end":
                made = ("end", *[tuple(row * coins[side] for row in tree[1 + side]) for side in (0, 1)])
            else:
                side = tree[1]
                bits = tuple(row * coins[side] for row in tree[2])
                made = say(side, bits, noisy(tree[3], sizes, coins), noisy(tree[4], sizes, coins))
            if rng.randrange(2) == 0:
                side = rng.randrange(2)
                made = say(side, random_told(rng, (0, 1), 1, coins[side]) * sizes[side], made, made)
            return made

        for _ in range(150):
            table = composed_table(rng, rng.randrange(1, 5), rng.randrange(1, 5), False)
            sizes, coins = (len(table), len(table[0])), (rng.randrange(1, 4), rng.randrange(1, 4))
            talk = ("talk", coins[0], coins[1], noisy(talk_for(table)[3], sizes, coins))
            self.assertEqual(self.looked_at(talk, table), 1)

    def test_told_by_columns_ahead_of_rows(self):
        # Both orders are without flaw, and let out the same.
        table = ((1, 2), (3, 4))
        ends = [plain_end((2, 2), (1, 1), answer) for answer in (1, 2, 3, 4)]
        rows = [say(0, ((0,), (1,)), ends[at], ends[at + 2]) for at in (0, 1)]
        talk = ("talk", 1, 1, say(1, ((0,), (1,)), rows[0], rows[1]))
        self.assertEqual(self.looked_at(talk, table), 1)


if __name__ == "__main__":
    unittest.main()
