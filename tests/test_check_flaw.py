"""[5]: check_flaw."""

import random
import unittest

from jointhands.errors import BadTable, BadTalk
from jointhands.talks import check_flaw
from tests.helpers import (all_alike, all_flaws, changed_ways, chained, no_integers, plain_end, random_tree, say,
                           strangers, with_right_answers, within)

# Side 0: two inputs, three coins. Side 1: three inputs, two coins; its input 2 has another answer.
TABLE = ((4, 4, 6), (4, 4, 6))
END = ("end", ((4, 4, 4), (4, 4, 4)), ((4, 4), (4, 4), (4, 5)))
TALK = ("talk", 3, 2, say(1, ((0, 1), (1, 1), (0, 0)), END, say(0, ((0, 0, 1), (1, 1, 1)), END, END)))
WRONG = ("wrong", (1, 2), (2, 1), 1)
LEARNS = ("learns", 0, 0, 2, (0, 1), (1, 1), (1, 2))
UNMET = ("learns", 1, 1, 0, (0, 1), (1, 1), (1, 3))


def random_case(rng, right):
    """A talk and a table, with right answers as far as can be or with any."""
    inputs = (rng.randrange(1, 4), rng.randrange(1, 4))
    coins = (rng.randrange(1, 4), rng.randrange(1, 4))
    table = tuple(tuple(rng.choice((0, 0, 1)) for _ in range(inputs[1])) for _ in range(inputs[0]))
    tree = random_tree(rng, 4, inputs, coins, (0, 1))
    if right:
        tree = with_right_answers(tree, table, coins)
    return ("talk", coins[0], coins[1], tree), table


class CheckFlaw(unittest.TestCase):
    def check(self, flaw, expected, talk=TALK, table=TABLE):
        found = check_flaw(talk, table, flaw)
        if found is not expected:
            self.fail(f"{found!r} for {flaw!r}")

    def test_flaws_by_hand(self):
        for flaw in (WRONG, LEARNS, UNMET, ("wrong", (0, 2), (0, 0), 0), ("wrong", (0, 2), (0, 0), 1),
                     ("learns", 0, 1, 0, (0, 1), (0,), (1, 0)), ("learns", 1, 0, 1, (0, 1), (1, 0), (2, 0))):
            self.check(flaw, True)

    def test_what_is_no_flaw_by_hand(self):
        for flaw in (("wrong", (0, 0), (0, 0), 0), ("wrong", (0, 0), (0, 0), 1),
                     ("learns", 0, 0, 2, (0, 1), (1, 0), (0, 0)), ("learns", 0, 0, 2, (0, 1), (1, 0), (1, 2)),
                     ("learns", 0, 0, 2, (0, 2), (1, 1), (1, 0)), ("learns", 0, 0, 2, (1, 2), (1, 1), (2, 0)),
                     ("learns", 0, 0, 2, (1, 0), (1, 1), (2, 1)), ("learns", 0, 0, 2, (0, 0), (1, 1), (1, 1)),
                     ("learns", 0, 0, 2, (0, 1), (1, 1), (2, 1)), ("learns", 0, 0, 2, (0, 1), (1,), (1, 2)),
                     ("learns", 0, 0, 2, (0, 1), (), (2, 2)), ("learns", 0, 0, 2, (0, 1), (1, 1, 0), (1, 2)),
                     ("learns", 1, 1, 0, (0, 1), (1, 1), (3, 1)), ("learns", 0, 0, 2, (0, 1), (0, 1), (1, 2))):
            self.check(flaw, False)

    def test_all_flaws_of_talks_and_their_changes(self):
        rng = random.Random(55)
        let = refused = 0
        for number in range(60):
            talk, table = random_case(rng, number % 2 == 0)
            flaws = all_flaws(talk, table)
            written = {repr(flaw) for flaw in flaws}
            for flaw in flaws:
                self.check(flaw, True, talk, table)
            for flaw in rng.sample(flaws, min(len(flaws), 6)):
                for other in changed_ways(flaw):
                    expected = repr(other) in written
                    self.check(other, expected, talk, table)
                    let, refused = let + expected, refused + (not expected)
        self.assertGreater(let, 300)
        self.assertGreater(refused, 10000)

    def test_all_that_could_be_a_flaw(self):
        rng = random.Random(56)
        for _ in range(12):
            talk, table = random_case(rng, True)
            written = {repr(flaw) for flaw in all_flaws(talk, table)}
            for x in range(-1, 4):
                for y in range(-1, 4):
                    for i in range(-1, 4):
                        for side in range(-1, 3):
                            for j in range(-1, 4):
                                flaw = ("wrong", (x, y), (i, j), side)
                                self.check(flaw, repr(flaw) in written, talk, table)
            rows = ((), (0,), (1,), (0, 0), (0, 1), (1, 0), (1, 1), (0, 0, 0), (1, 0, 1))
            for side in (0, 1):
                for others in ((0, 1), (0, 2), (1, 2), (1, 0), (0, 0), (0, 3), (-1, 0)):
                    for bits in rows:
                        for counts in ((0, 1), (1, 0), (1, 1), (2, 1), (0, 0), (0, 2)):
                            flaw = ("learns", side, 0, 0, others, bits, counts)
                            self.check(flaw, repr(flaw) in written, talk, table)

    def test_no_flaw_for_a_talk_without(self):
        table = ((3, 3), (3, 3))
        talk = ("talk", 1, 1, ("end", ((3,), (3,)), ((3,), (3,))))
        for flaw in (("wrong", (0, 0), (0, 0), 0), ("learns", 0, 0, 0, (0, 1), (), (1, 1)),
                     ("learns", 0, 0, 0, (0, 1), (), (1, 0)), None, ()):
            self.check(flaw, False, talk, table)

    def test_true_and_false_are_no_numbers(self):
        one = ("learns", 0, 0, 0, (0, 1), (0,), (1, 0))
        talk = ("talk", 1, 1, say(1, ((0,), (1,)), plain_end((1, 2), (1, 1)), plain_end((1, 2), (1, 1))))
        self.check(one, True, talk, all_alike(1, 2))
        for at, part in ((1, False), (2, False), (3, False), (4, (False, 1)), (4, (0, True)), (5, (False,)),
                         (6, (True, 0)), (6, (1, False))):
            self.check(one[:at] + (part,) + one[at + 1:], False, talk, all_alike(1, 2))
        two = ("wrong", (0, 1), (0, 0), 1)
        self.check(two, True, talk, ((0, 1),))
        for at, part in ((1, (False, 1)), (1, (0, True)), (2, (False, 0)), (2, (0, False)), (3, True)):
            self.check(two[:at] + (part,) + two[at + 1:], False, talk, ((0, 1),))

    def test_other_kinds_in_each_place(self):
        for flaw in (WRONG, LEARNS, UNMET):
            for at in range(len(flaw)):
                for other in strangers() + no_integers():
                    # Other integers may make another flaw; they have their own test.
                    if type(other) is int or (type(other) is str and other == flaw[at]):
                        continue
                    self.check(flaw[:at] + (other,) + flaw[at + 1:], False)
                if type(flaw[at]) is tuple:
                    for inner in range(len(flaw[at])):
                        for other in no_integers():
                            part = flaw[at][:inner] + (other,) + flaw[at][inner + 1:]
                            self.check(flaw[:at] + (part,) + flaw[at + 1:], False)

    def test_whatever_else(self):
        for other in strangers():
            self.check(other, False)
            self.check((other,) * 4, False)
            self.check(("wrong",) + (other,) * 3, False)
            self.check(("learns",) + (other,) * 6, False)

    def test_lists_and_lengths_and_words(self):
        for flaw in (WRONG, LEARNS, UNMET):
            self.check(list(flaw), False)
            self.check(flaw + (0,), False)
            self.check(flaw[:-1], False)
            for word in ("", "Wrong", "LEARNS", "wrong ", "learn", b"wrong", b"learns", None, 0, ("wrong",)):
                self.check((word,) + flaw[1:], False)
            for at in range(len(flaw)):
                if type(flaw[at]) is tuple:
                    for part in (list(flaw[at]), flaw[at] + (0,), flaw[at] + (1,), flaw[at][:-1], ()):
                        self.check(flaw[:at] + (part,) + flaw[at + 1:], False)
        self.check(("learns",) + WRONG[1:], False)
        self.check(("wrong",) + LEARNS[1:], False)

    def test_numbers_that_there_are_not(self):
        flaws = all_flaws(TALK, TABLE)
        for number in (-1, -2, -3, 0, 1, 2, 3, 4, 100, 10 ** 5000, -10 ** 5000):
            for flaw in (WRONG, LEARNS, UNMET):
                for at in range(1, len(flaw)):
                    parts = [number] if type(flaw[at]) is int else [
                        flaw[at][:inner] + (number,) + flaw[at][inner + 1:] for inner in range(len(flaw[at]))]
                    for part in parts:
                        other = flaw[:at] + (part,) + flaw[at + 1:]
                        self.check(other, other in flaws)

    def test_negative_numbers_do_not_count_from_behind(self):
        # Each is a flaw with the number that Python would take it for.
        for flaw in (("wrong", (-1, 2), (2, 1), 1), ("wrong", (1, -1), (2, 1), 1), ("wrong", (1, 2), (-1, 1), 1),
                     ("wrong", (1, 2), (2, -1), 1), ("wrong", (1, 2), (2, 1), -1),
                     ("learns", -2, 0, 2, (0, 1), (1, 1), (1, 2)), ("learns", 0, -2, 2, (0, 1), (1, 1), (1, 2)),
                     ("learns", 0, 0, -1, (0, 1), (1, 1), (1, 2)), ("learns", 0, 0, 2, (-3, 1), (1, 1), (1, 2)),
                     ("learns", 0, 0, 2, (0, -2), (1, 1), (1, 2)), ("learns", 0, 0, 2, (-3, -2), (1, 1), (1, 2))):
            self.check(flaw, False)

    def test_bits_of_any_length(self):
        self.check(LEARNS[:5] + ((1,) * 1000000,) + LEARNS[6:], False)
        end = plain_end((1, 2), (1, 1))
        talk = ("talk", 1, 1, chained(250, end, 0, 1, ((0,), (1,))))
        table = all_alike(1, 2)
        with within(60):
            self.check(("learns", 0, 0, 0, (0, 1), (0,) * 249, (1, 0)), True, talk, table)
            self.check(("learns", 0, 0, 0, (0, 1), (1,), (0, 1)), True, talk, table)
            for many in (0, 1, 248, 250, 10000):
                self.check(("learns", 0, 0, 0, (0, 1), (0,) * many, (1, 0)), False, talk, table)

    def test_a_product_above_that_of_flaw_of(self):
        end = plain_end((100, 100), (256, 256), 5)
        bits = (tuple(coin % 2 for coin in range(256)),) * 99 + ((0,) * 256,)
        talk = ("talk", 256, 256, say(1, bits, end, end))
        table = all_alike(100, 100, 5)
        with within(60):
            self.check(("learns", 0, 99, 255, (98, 99), (0,), (128, 256)), True, talk, table)
            self.check(("learns", 0, 99, 255, (97, 98), (0,), (128, 128)), False, talk, table)
            self.check(("wrong", (99, 99), (255, 255), 1), False, talk, table)

    def test_the_table_is_looked_at_first_then_the_talk(self):
        for other in strangers():
            with self.assertRaises(BadTable):
                check_flaw(TALK, other, WRONG)
            with self.assertRaises(BadTable):
                check_flaw(None, other, None)
            with self.assertRaises(BadTalk):
                check_flaw(other, TABLE, WRONG)
            with self.assertRaises(BadTalk):
                check_flaw(other, TABLE, None)
        with self.assertRaises(BadTalk):
            check_flaw(TALK, all_alike(3, 2), WRONG)


if __name__ == "__main__":
    unittest.main()
