"""[2]: nothing that is handed in is modified, and the same call gives the same again."""

import copy
import itertools
import random
import unittest

from jointhands import knots, talks
from tests.helpers import composed_table, peeled_table, plain_kinds, random_tree, say

TABLE = ((1, 7, 1), (5, 5, 5), (2, 7, 2))
KNOTTED = ((4, 4, 4), (0, 0, 3), (0, 1, 3))
FLAWED = ("talk", 2, 1, say(0, ((0, 1), (0, 0), (1, 1)), ("end", ((7, 7),) * 3, ((7,),) * 3),
                            ("end", ((7, 7),) * 3, ((7,),) * 3)))
EVEN = ((7, 7, 7),) * 3
PEOPLE_END = ("end", (((1,), (2,)), ((3,), (4,)), ((5,), (6,))))
PEOPLE = ("people", (1, 1, 1), say(3, ((0,), (1,)), PEOPLE_END, say(1, ((0,), (1,)), PEOPLE_END, PEOPLE_END)))


def calls():
    """(function, arguments) of each function; the arguments are made anew."""
    talk = talks.two_sides(PEOPLE, (2, 2, 2), (2,))
    flaw = talks.flaw_of(FLAWED, EVEN)
    return [
        (talks.check_table, (TABLE,)),
        (talks.check_talk, (FLAWED, TABLE)),
        (talks.hold_talk, (FLAWED, (0, 2), (1, 0))),
        (talks.hold_talk, (talk, (1, 3), (0, 0))),
        (talks.flaw_of, (FLAWED, EVEN)),
        (talks.flaw_of, (FLAWED, TABLE)),
        (talks.check_flaw, (FLAWED, EVEN, flaw)),
        (talks.check_flaw, (FLAWED, TABLE, [1, [2, 3]])),
        (talks.check_flaw, (FLAWED, EVEN, flaw[:5] + (list(flaw[5]),) + flaw[6:])),
        (talks.two_sides, (PEOPLE, (2, 2, 2), [1, 3])),
        (talks.two_sides, (PEOPLE, (2, 2, 2), [2])),
        (knots.knot_of, (TABLE,)),
        (knots.knot_of, (KNOTTED,)),
        (knots.knot_of, (peeled_table(9),)),
        (knots.talk_for, (TABLE,)),
        (knots.talk_for, (peeled_table(9),)),
        (knots.last_part, (TABLE, (2, 0))),
        (knots.check_knot, (KNOTTED, ((1, 2), (0, 1)))),
        (knots.check_knot, (KNOTTED, ([1, 2], [0, 1]))),
    ]


def refused_calls():
    """Calls that raise an error, with arguments that could be modified."""
    return [
        (talks.check_table, ([[1, 2], [3]],)),
        (talks.check_talk, (["talk", 1, 1, []], TABLE)),
        (talks.flaw_of, (FLAWED, [[7] * 3] * 3)),
        (talks.check_flaw, ([FLAWED], TABLE, [])),
        (talks.two_sides, (PEOPLE, (2, 2, 2), [3, 1])),
        (talks.two_sides, (PEOPLE, [2, 2, 2], [1, 3])),
        (knots.talk_for, (KNOTTED,)),
        (knots.last_part, (KNOTTED, (0, 0))),
        (knots.knot_of, ([[1], [2]],)),
    ]


def outcome(function, arguments):
    """What a call gives: its answer or the class of its error."""
    try:
        return function(*arguments)
    except ValueError as error:
        return type(error).__name__


class SameAgain(unittest.TestCase):
    def test_nothing_is_modified(self):
        for function, arguments in calls() + refused_calls():
            with self.subTest(function.__name__):
                before = copy.deepcopy(arguments)
                written = repr(arguments)
                outcome(function, arguments)
                self.assertEqual(arguments, before)
                self.assertEqual(repr(arguments), written)

    def test_the_same_call_gives_the_same_again(self):
        for function, arguments in calls() + refused_calls():
            with self.subTest(function.__name__):
                self.assertEqual(outcome(function, arguments), outcome(function, arguments))

    def test_with_other_calls_in_between(self):
        told = calls() + refused_calls()
        first = [outcome(*call) for call in told]
        rng = random.Random(2)
        order = list(range(len(told))) * 4
        rng.shuffle(order)
        for at in order:
            self.assertEqual(outcome(*told[at]), first[at], told[at][0].__name__)

    def test_with_others_of_the_same_sizes_in_between(self):
        rng = random.Random(3)
        tables = [composed_table(rng, 4, 4, True) for _ in range(12)]
        trees = [random_tree(rng, 4, (4, 4), (2, 2), (0, 1)) for _ in range(4)]
        told = [(function, (table,)) for table in tables for function in (knots.knot_of, knots.talk_for)]
        told += [(knots.last_part, (table, inputs)) for table in tables for inputs in ((0, 0), (3, 2))]
        told += [(talks.flaw_of, (("talk", 2, 2, tree), table)) for table in tables[:4] for tree in trees]
        first = [outcome(*call) for call in told]
        for _ in range(3):
            for call, answer in sorted(zip(told, first), key=lambda pair: rng.random()):
                self.assertEqual(outcome(*call), answer)

    def test_a_group_that_is_modified_afterwards(self):
        group = [1, 3]
        talk = talks.two_sides(PEOPLE, (2, 2, 2), group)
        written = repr(talk)
        group[:] = [2]
        self.assertEqual(repr(talk), written)
        self.assertEqual(talks.two_sides(PEOPLE, (2, 2, 2), group)[3][2], ((0,), (1,), (0,), (1,)))
        self.assertEqual(talks.two_sides(PEOPLE, (2, 2, 2), [1, 3]), talk)

    def test_answers_are_integers_strings_and_tuples(self):
        for function, arguments in calls():
            answer = outcome(function, arguments)
            with self.subTest(function.__name__):
                if function in (talks.check_flaw, knots.check_knot):
                    self.assertIn(answer, (True, False))
                    self.assertIs(type(answer), bool)
                elif function in (talks.check_table, talks.check_talk):
                    self.assertTrue(answer is None or answer == "BadTalk")
                else:
                    self.assertTrue(plain_kinds(answer))

    def test_arguments_by_name(self):
        pairs = itertools.chain(calls(), refused_calls())
        for function, arguments in pairs:
            names = function.__code__.co_varnames[:function.__code__.co_argcount]
            with self.subTest(function.__name__):
                def by_name(*given):
                    return function(**dict(zip(names, given)))
                self.assertEqual(outcome(by_name, arguments), outcome(function, arguments))


if __name__ == "__main__":
    unittest.main()
