"""[8]: two_sides."""

import itertools
import random
import unittest

from jointhands.errors import BadTable, BadTalk
from jointhands.knots import knot_of
from jointhands.talks import check_talk, flaw_of, hold_talk, two_sides
from tests.helpers import all_alike, no_integers, plain_kinds, random_told, say, strangers, told_alike, within


def people_end(sizes, coins, answer=0):
    return ("end", tuple(told_alike(answer, size, many) for size, many in zip(sizes, coins)))


def random_people_tree(rng, depth, sizes, coins):
    """A tree at most so deep, in which all answers are unlike."""
    if depth == 1 or rng.randrange(6) == 0:
        return ("end", tuple(random_told(rng, range(-500, 500), size, many) for size, many in zip(sizes, coins)))
    person = rng.randrange(len(sizes))
    bits = random_told(rng, (0, 1), sizes[person], coins[person])
    return say(person + 1, bits, random_people_tree(rng, depth - 1, sizes, coins),
               random_people_tree(rng, depth - 1, sizes, coins))


def hold_people(people_talk, inputs, coins):
    """The bits that are sent and what each person answers."""
    sent = ()
    tree = people_talk[2]
    while tree[0] == "say":
        _, person, bits, first, second = tree
        sent += (bits[inputs[person - 1]][coins[person - 1]],)
        tree = second if sent[-1] else first
    return sent, [tree[1][at][inputs[at]][coins[at]] for at in range(len(inputs))]


def side_tuples(people, sizes):
    """All tuples of numbers of these people, in ascending order."""
    return sorted(itertools.product(*[range(sizes[person - 1]) for person in people]))


def all_groups(many):
    """All groups of some but not all people."""
    return [group for size in range(1, many) for group in itertools.combinations(range(1, many + 1), size)]


SIZES = (2, 3, 1)
COINS = (2, 1, 3)
END = ("end", (((10, 11), (12, 13)), ((20,), (21,), (22,)), ((30, 31, 32),)))
BITS = {1: ((0, 1), (1, 1)), 2: ((0,), (1,), (0,)), 3: ((0, 1, 0),)}
TREE = say(2, BITS[2], say(1, BITS[1], END, END), say(3, BITS[3], END, END))
TALK = ("people", COINS, TREE)


class ByHand(unittest.TestCase):
    def test_two_people(self):
        end = ("end", (((1, 2), (3, 4)), ((5,), (6,), (7,))))
        talk = ("people", (2, 1), say(2, ((0,), (1,), (1,)), end, say(1, ((0, 1), (1, 0)), end, end)))
        straight = ("end", ((1, 2), (3, 4)), ((5,), (6,), (7,)))
        over = ("end", ((5,), (6,), (7,)), ((1, 2), (3, 4)))
        self.assertEqual(two_sides(talk, (2, 3), (1,)), ("talk", 2, 1, say(
            1, ((0,), (1,), (1,)), straight, say(0, ((0, 1), (1, 0)), straight, straight))))
        self.assertEqual(two_sides(talk, (2, 3), (2,)), ("talk", 1, 2, say(
            0, ((0,), (1,), (1,)), over, say(1, ((0, 1), (1, 0)), over, over))))

    def test_two_of_three_people(self):
        # Inputs of persons 1 and 2: (0, 0), (0, 1), (0, 2), (1, 0), (1, 1), (1, 2); coins: (0, 0), (1, 0).
        answers0 = ((10, 11),) * 3 + ((12, 13),) * 3
        end = ("end", answers0, ((30, 31, 32),))
        tree = say(0, ((0, 0), (1, 1), (0, 0)) * 2, say(0, ((0, 1),) * 3 + ((1, 1),) * 3, end, end),
                   say(1, ((0, 1, 0),), end, end))
        self.assertEqual(two_sides(TALK, SIZES, (1, 2)), ("talk", 2, 3, tree))

    def test_the_first_person_of_a_side_answers(self):
        # Persons 2 and 3: inputs (0, 0), (1, 0), (2, 0); coins (0, 0), (0, 1), (0, 2).
        end = ("end", ((20,) * 3, (21,) * 3, (22,) * 3), ((10, 11), (12, 13)))
        tree = say(0, ((0,) * 3, (1,) * 3, (0,) * 3), say(1, BITS[1], end, end), say(0, ((0, 1, 0),) * 3, end, end))
        self.assertEqual(two_sides(TALK, SIZES, [2, 3]), ("talk", 3, 2, tree))

    def test_people_who_are_not_side_by_side(self):
        # Persons 1 and 3: inputs (0, 0), (1, 0); coins (0, 0), (0, 1), (0, 2), (1, 0), (1, 1), (1, 2).
        end = ("end", ((20,), (21,), (22,)), ((10,) * 3 + (11,) * 3, (12,) * 3 + (13,) * 3))
        tree = say(0, BITS[2], say(1, ((0,) * 3 + (1,) * 3, (1,) * 6), end, end),
                   say(1, ((0, 1, 0, 0, 1, 0),) * 2, end, end))
        self.assertEqual(two_sides(TALK, SIZES, (2,)), ("talk", 1, 6, tree))

    def test_lists_and_tuples_of_people_are_one(self):
        for group in all_groups(3):
            self.assertEqual(two_sides(TALK, SIZES, group), two_sides(TALK, SIZES, list(group)))
            self.assertTrue(plain_kinds(two_sides(TALK, SIZES, list(group))))

    def test_a_table_with_a_knot_is_not_found_out_by_people_either(self):
        # Three people want to know whether all of them have 1: with any group against the others this has a knot.
        everything = ("end", (told_alike(0, 2, 1),) * 3)
        for person in (3, 2, 1):
            everything = say(person, ((0,), (1,)), everything, everything)
        for group in all_groups(3):
            others = [person for person in (1, 2, 3) if person not in group]
            both = (side_tuples(group, (2, 2, 2)), side_tuples(others, (2, 2, 2)))
            table = tuple(tuple(int(all(one) and all(other)) for other in both[1]) for one in both[0])
            self.assertIsNotNone(knot_of(table))
            self.assertIsNotNone(flaw_of(two_sides(("people", (1, 1, 1), everything), (2, 2, 2), group), table))


class AgainstThePeople(unittest.TestCase):
    def compare(self, people_talk, sizes, group, most=None, rng=None):
        """The talk of two sides against that of the people, with all inputs and coins or some of them."""
        coins = people_talk[1]
        many = len(coins)
        sides = (list(group), [person for person in range(1, many + 1) if person not in group])
        inputs = [side_tuples(people, sizes) for people in sides]
        drawn = [side_tuples(people, coins) for people in sides]
        talk = two_sides(people_talk, sizes, group)
        self.assertEqual(talk[:3], ("talk", len(drawn[0]), len(drawn[1])))
        self.assertIsNone(check_talk(talk, all_alike(len(inputs[0]), len(inputs[1]))))
        numbers = [range(len(rows)) for rows in inputs + drawn]
        ways = itertools.product(*numbers)
        if most is not None:
            ways = [tuple(rng.choice(row) for row in numbers) for _ in range(most)]
        for x, y, i, j in ways:
            told = dict(zip(sides[0] + sides[1], inputs[0][x] + inputs[1][y]))
            tossed = dict(zip(sides[0] + sides[1], drawn[0][i] + drawn[1][j]))
            sent, answers = hold_people(people_talk, [told[person] for person in sorted(told)],
                                        [tossed[person] for person in sorted(tossed)])
            expected = (sent, (answers[sides[0][0] - 1], answers[sides[1][0] - 1]))
            self.assertEqual(hold_talk(talk, (x, y), (i, j)), expected)

    def test_small_talks_with_all_inputs_and_coins(self):
        rng = random.Random(81)
        for many in (2, 3, 4):
            for _ in range(6):
                sizes = tuple(rng.randrange(1, 4) for _ in range(many))
                coins = tuple(rng.choice((1, 1, 2, 3, 4)) if many < 4 else rng.choice((1, 1, 2)) for _ in range(many))
                talk = ("people", coins, random_people_tree(rng, 5, sizes, coins))
                for group in all_groups(many):
                    kind = rng.choice((list, tuple))
                    self.compare(talk, sizes, kind(group), 1500, rng)

    def test_every_way_of_two_and_three_people(self):
        rng = random.Random(82)
        for sizes, coins in (((3, 2), (4, 3)), ((1, 3), (2, 4)), ((2, 3, 2), (2, 1, 3)), ((3, 1, 2), (1, 4, 2))):
            talk = ("people", coins, random_people_tree(rng, 5, sizes, coins))
            for group in all_groups(len(sizes)):
                self.compare(talk, sizes, group)

    def test_five_people_of_the_greatest_sizes(self):
        rng = random.Random(83)
        sizes, coins = (3,) * 5, (4,) * 5
        talk = ("people", coins, random_people_tree(rng, 6, sizes, coins))
        for group in all_groups(5):
            with within(120):
                self.compare(talk, sizes, rng.choice((list, tuple))(group), 60, rng)

    def test_200_trees_and_201(self):
        sizes, coins = (2, 3), (1, 2)
        end = people_end(sizes, coins, 4)
        tree = end
        for number in range(99):
            tree = say(1, ((0,), (1,)), tree, end) if number % 2 else say(2, ((0, 1), (0, 0), (1, 1)), end, tree)
        rng = random.Random(84)
        self.compare(("people", coins, tree), sizes, (1,))
        self.compare(("people", coins, tree), sizes, [2], 100, rng)
        for more in (say(1, ((0,), (1,)), tree, end), say(1, ((0,), (1,)), end, tree)):
            with self.assertRaises(BadTalk):
                two_sides(("people", coins, more), sizes, (1,))

    def test_trees_that_stand_at_many_places(self):
        sizes, coins = (2, 3), (1, 2)
        tree = people_end(sizes, coins, 4)
        for deep in range(2, 260):
            tree = say(1, ((0,), (1,)), tree, tree)
            with within(60):
                if 2 ** deep - 1 <= 200:
                    self.compare(("people", coins, tree), sizes, (2,))
                else:
                    with self.assertRaises(BadTalk):
                        two_sides(("people", coins, tree), sizes, (2,))

    def test_trees_far_too_deep(self):
        sizes, coins = (2, 3), (1, 2)
        end = people_end(sizes, coins, 4)
        for many in (250, 251, 100000):
            tree = end
            for _ in range(many - 1):
                tree = say(1, ((0,), (1,)), end, tree)
            with within(60), self.assertRaises(BadTalk):
                two_sides(("people", coins, tree), sizes, (2,))


class Wrong(unittest.TestCase):
    def refused(self, talk=TALK, sizes=SIZES, group=(1, 3)):
        with self.assertRaises(BadTalk):
            two_sides(talk, sizes, group)

    def each_tree_refused(self, tree):
        self.refused(("people", COINS, tree))
        self.refused(("people", COINS, say(2, BITS[2], END, tree)))
        self.refused(("people", COINS, say(2, BITS[2], say(1, BITS[1], tree, END), END)))

    def test_it_is_let_as_it_is(self):
        for group in all_groups(3):
            self.assertEqual(two_sides(TALK, SIZES, group)[0], "talk")

    def test_one_person_and_six(self):
        for many in (0, 1, 6, 7):
            sizes, coins = (2,) * many, (1,) * many
            for group in ((1,), (), (1, 2)):
                self.refused(("people", coins, people_end(sizes, coins)), sizes, group)
        for many in (2, 3, 4, 5):
            sizes, coins = (2,) * many, (1,) * many
            two_sides(("people", coins, people_end(sizes, coins)), sizes, (1,))

    def test_numbers_of_coins(self):
        for coins in (1, 4):
            two_sides(("people", (1, coins), people_end((1, 1), (1, coins))), (1, 1), (1,))
        for coins in (0, 5, -1, 10 ** 5000):
            size = coins if coins in (0, 5) else 0
            self.refused(("people", (1, coins), people_end((1, 1), (1, size))), (1, 1), (1,))
            self.refused(("people", (coins, 1), people_end((1, 1), (size, 1))), (1, 1), (1,))
        for coins in no_integers():
            self.refused(("people", (1, coins), people_end((1, 1), (1, 1))), (1, 1), (1,))
            self.refused(("people", (coins, 1), people_end((1, 1), (1, 1))), (1, 1), (1,))
        for coins in strangers() + [list(COINS), COINS[:2], COINS + (1,), COINS[::-1]]:
            self.refused(("people", coins, TREE))

    def test_sizes(self):
        for size in (1, 3):
            two_sides(("people", (1, 1), people_end((1, size), (1, 1))), (1, size), (1,))
        for size in (0, 4, -1, 10 ** 5000):
            many = size if size in (0, 4) else 0
            self.refused(("people", (1, 1), people_end((1, many), (1, 1))), (1, size), (1,))
            self.refused(("people", (1, 1), people_end((many, 1), (1, 1))), (size, 1), (1,))
        for size in no_integers():
            self.refused(("people", (1, 1), people_end((1, 1), (1, 1))), (1, size), (1,))
            self.refused(("people", (1, 1), people_end((1, 1), (1, 1))), (size, 1), (1,))
        for sizes in strangers() + [list(SIZES), SIZES[:2], SIZES + (1,), SIZES[::-1], (2, 3, 2), (3, 3, 1)]:
            self.refused(sizes=sizes)

    def test_groups(self):
        for group in ((), (1, 2, 3), (2, 1), (3, 1), (1, 1), (2, 2), (1, 2, 2), (1, 1, 2), (0,), (0, 1), (4,), (1, 4),
                      (-1,), (-1, 1), (1, 10 ** 5000), (1, 2, 3, 4), (3, 2, 1)):
            self.refused(group=group)
            self.refused(group=list(group))
        for number in no_integers():
            for group in ((number,), (number, 2), (1, number)):
                self.refused(group=group)
                self.refused(group=list(group))
        for group in strangers() + [{1}, {1: 2}, frozenset({1, 2}), range(1, 3), iter((1, 2)), "12", b"\x01\x02",
                                    (number for number in (1, 2))]:
            self.refused(group=group)

    def test_all_but_one_of_five(self):
        sizes, coins = (1, 2, 1, 2, 1), (1,) * 5
        talk = ("people", coins, people_end(sizes, coins))
        for left_out in range(1, 6):
            group = [person for person in range(1, 6) if person != left_out]
            self.assertEqual(two_sides(talk, sizes, group)[0], "talk")
            self.assertEqual(two_sides(talk, sizes, (left_out,))[0], "talk")
        self.refused(talk, sizes, [1, 2, 3, 4, 5])

    def test_people_who_speak(self):
        for person in (0, 4, -1, 10 ** 5000):
            for bits in BITS.values():
                self.each_tree_refused(say(person, bits, END, END))
        for person in no_integers():
            for bits in BITS.values():
                self.each_tree_refused(say(person, bits, END, END))
        for person in BITS:
            for other in BITS:
                if person != other:
                    self.each_tree_refused(say(person, BITS[other], END, END))

    def test_bits(self):
        for person, bits in BITS.items():
            for bit in no_integers() + [2, -1]:
                row = bits[-1][:-1] + (bit,)
                self.each_tree_refused(say(person, bits[:-1] + (row,), END, END))
            for other in (list(bits), bits + bits[:1], bits[:-1], (), bits[:-1] + (list(bits[-1]),),
                          bits[:-1] + (bits[-1] + (0,),), bits[:-1] + (bits[-1][:-1],)):
                self.each_tree_refused(say(person, other, END, END))

    def test_answers(self):
        answers = END[1]
        for other in (list(answers), answers + answers[:1], answers[:-1], (), answers[0], answers[::-1]):
            self.each_tree_refused(("end", other))
        for at, told in enumerate(answers):
            for other in (list(told), told + told[:1], told[:-1], (), told[0], told[:-1] + (list(told[-1]),),
                          told[:-1] + (told[-1] + (0,),), told[:-1] + (told[-1][:-1],)):
                self.each_tree_refused(("end", answers[:at] + (other,) + answers[at + 1:]))
            for number in no_integers():
                other = told[:-1] + (told[-1][:-1] + (number,),)
                self.each_tree_refused(("end", answers[:at] + (other,) + answers[at + 1:]))
            huge = told[:-1] + (told[-1][:-1] + (-10 ** 5000,),)
            two_sides(("people", COINS, ("end", answers[:at] + (huge,) + answers[at + 1:])), SIZES, (1, 3))

    def test_words_and_lengths(self):
        for word in ("talk", "People", "people ", "", b"people", None, 0, ("people",), ["people"]):
            self.refused((word, COINS, TREE))
        for word in ("end", "talk", "SAY", "", b"say", None, ["say"]):
            self.each_tree_refused((word, 2, BITS[2], END, END))
        for word in ("say", "people", "End", "", b"end", None, ["end"]):
            self.each_tree_refused((word, END[1]))
        for talk in (TALK + (0,), TALK[:-1], TALK[1:], (), list(TALK), ("people",), ("people", COINS, TREE, TREE)):
            self.refused(talk)
        whole = say(2, BITS[2], END, END)
        for tree in (whole + (END,), whole[:-1], whole[1:], END + (END[1],), END[:-1], END[1:], (), list(whole),
                     list(END), ("end",) + END[1][:2], ("end", END[1][0], END[1][1])):
            self.each_tree_refused(tree)

    def test_whatever_else(self):
        for other in strangers():
            self.refused(other)
            self.each_tree_refused(other)
            self.each_tree_refused(say(1, other, END, END))
            self.each_tree_refused(("end", other))
            self.each_tree_refused(("end", (other,) * 3))
            self.refused(other, other, other)

    def test_a_talk_of_two_sides_is_none_of_people(self):
        end = ("end", ((0,),), ((0,),))
        self.refused(("talk", 1, 1, end), (1, 1), (1,))
        self.refused(("people", (1, 1), end), (1, 1), (1,))
        with self.assertRaises(BadTalk):
            check_talk(("people", (1, 1), end), ((0,),))
        with self.assertRaises(BadTable):
            check_talk(TALK, ())


if __name__ == "__main__":
    unittest.main()
