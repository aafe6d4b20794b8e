"""[2]: nothing that is handed in is modified, and the same call gives the same again."""

import copy
import itertools
import random
import unittest

from jointhands import knots, learning, loud, programs, quiet, structures, tables, talks, turning
from tests.helpers import composed_table, peeled_table, plain_kinds, random_tree, say
from tests.loud_runs import SOUND, loud_coins_taken, loud_told
from tests.runs import QUIET, coins_taken, drawn_program, puts_of, run_told, within_greatest

TABLE = ((1, 7, 1), (5, 5, 5), (2, 7, 2))
KNOTTED = ((4, 4, 4), (0, 0, 3), (0, 1, 3))
FLAWED = ("talk", 2, 1, say(0, ((0, 1), (0, 0), (1, 1)), ("end", ((7, 7),) * 3, ((7,),) * 3),
                            ("end", ((7, 7),) * 3, ((7,),) * 3)))
EVEN = ((7, 7, 7),) * 3
PEOPLE_END = ("end", (((1,), (2,)), ((3,), (4,)), ((5,), (6,))))
PEOPLE = ("people", (1, 1, 1), say(3, ((0,), (1,)), PEOPLE_END, say(1, ((0,), (1,)), PEOPLE_END, PEOPLE_END)))
STRUCTURE = ("structure", 4, ((1, 2), (3,), (4,)))
PROGRAM = (("put", 2), ("put", 4), ("times", 0, 1), ("number", -8), ("less", 2, 3), ("scale", 3, 4), ("tell", 5, (1, 3)))
TEXT = "put 2\nput 4\ntimes 0 1\nnumber -8\nless 2 3\nscale 3 4\ntell 5 1 3"
COINS = [3, 1, 4, 1, 5, 9, 2, 6, 5, 3, 5, 8]
# One that is sound, and more coins for its loud runs.
FIRM = ("structure", 4, ((1, 2), (3,)))
MANY_COINS = COINS * 5
LIES = [0, 3, -1, 0, 10 ** 20, 5]


def calls():
    """(function, arguments) of each function; the arguments are made anew."""
    return calls_with_tables() + calls_with_programs() + calls_with_liars() + calls_of_turnings()


def calls_with_programs():
    run = quiet.run_quiet(STRUCTURE, 10, PROGRAM, [7, 8], list(COINS))
    return [
        (structures.check_structure, (STRUCTURE,)),
        (structures.threshold, (5, 2)),
        (structures.two_groups, (STRUCTURE,)),
        (structures.two_groups, (("structure", 3, ((1, 2), (2, 3))),)),
        (structures.three_groups, (STRUCTURE,)),
        (structures.holders, (STRUCTURE, 2)),
        (structures.holders, (STRUCTURE, 3)),
        (structures.is_allowed, (STRUCTURE, [1, 2])),
        (structures.is_allowed, (STRUCTURE, [1, 3])),
        (programs.check_program, (PROGRAM, 4)),
        (programs.plain, (PROGRAM, [7, 8], 10)),
        (programs.plain, (PROGRAM, (7, 8), 9)),
        (programs.read_program, (TEXT,)),
        (programs.write_program, (PROGRAM,)),
        (quiet.run_quiet, (STRUCTURE, 10, PROGRAM, [7, 8], list(COINS))),
        (quiet.run_quiet, (STRUCTURE, 10, PROGRAM, (7, 8), tuple(COINS) * 2)),
        (quiet.run_quiet, (STRUCTURE, 11, PROGRAM, (7, 8), tuple(COINS))),
        (quiet.view_quiet, (run, PROGRAM, [7, 8], [1, 4])),
        (quiet.view_quiet, (run, PROGRAM, [7, 8], [])),
    ]


def calls_with_liars():
    run = loud.run_loud(FIRM, 10, PROGRAM, [7, 8], list(MANY_COINS), [1, 2], list(LIES))
    return [
        (loud.run_loud, (FIRM, 10, PROGRAM, [7, 8], list(MANY_COINS), [], [])),
        (loud.run_loud, (FIRM, 10, PROGRAM, [7, 8], list(MANY_COINS), [1, 2], list(LIES))),
        (loud.run_loud, (STRUCTURE, 11, PROGRAM, (7, 8), tuple(MANY_COINS), (3,), tuple(LIES))),
        (loud.view_loud, (run, PROGRAM, [7, 8], [1, 4])),
        (loud.view_loud, (run, PROGRAM, [7, 8], [])),
        (loud.attack, (FIRM,)),
        (loud.attack, (STRUCTURE,)),
    ]


def calls_of_turnings():
    return [
        (turning.turned, (STRUCTURE, 10, PROGRAM, [7, 8], [7, 3], list(COINS), [1, 2])),
        (turning.turned, (STRUCTURE, 10, PROGRAM, [7, 8], [2, 3], list(COINS), [])),
        (turning.turned, (STRUCTURE, 10, PROGRAM, [7, 8], [6, 8], list(COINS), [4])),
        (turning.turned_loud, (FIRM, 10, PROGRAM, [7, 8], [7, 3], list(MANY_COINS), [1, 2], [2], list(LIES))),
        (turning.turned_loud, (FIRM, 10, PROGRAM, [7, 8], [6, 3], list(MANY_COINS), [3], [], list(LIES))),
        (turning.made_view, (STRUCTURE, 10, PROGRAM, [7, 0], [4], list(COINS), [1, 2])),
        (turning.made_view, (STRUCTURE, 10, PROGRAM, [0, 0], [9], list(COINS), [])),
        (tables.program_of, ((0, 1, 1, 0), [3, 1], 2)),
        (tables.program_of, (tuple(at * at % 7 for at in range(49)), [8, 8], 7)),
        (learning.learned, (STRUCTURE, 10, PROGRAM, [7, 8], [1, 2])),
        (learning.learned, (STRUCTURE, 10, PROGRAM, [7, 8], [])),
        (learning.quiet_costs, (STRUCTURE, PROGRAM)),
        (learning.loud_costs, (STRUCTURE, PROGRAM)),
    ]


def calls_with_tables():
    talk = talks.two_sides(PEOPLE, (2, 2, 2), (2,))
    flaw = talks.flaw_of(FLAWED, EVEN)
    return [
        (talks.check_table, (TABLE,)),
        (talks.check_talk, (FLAWED, TABLE)),
        (talks.hold_talk, (FLAWED, (0, 2), (1, 0))),
        (talks.hold_talk, (talk, (1, 3), (0, 0))),
        (talks.flaw_of, (FLAWED, EVEN)),
        (talks.flaw_of, (FLAWED, TABLE)),
        (talks.check_flaw, (FLAWED, EVEN, flaw)),
        (talks.check_flaw, (FLAWED, TABLE, [1, [2, 3]])),
        (talks.check_flaw, (FLAWED, EVEN, flaw[:5] + (list(flaw[5]),) + flaw[6:])),
        (talks.two_sides, (PEOPLE, (2, 2, 2), [1, 3])),
        (talks.two_sides, (PEOPLE, (2, 2, 2), [2])),
        (knots.knot_of, (TABLE,)),
        (knots.knot_of, (KNOTTED,)),
        (knots.knot_of, (peeled_table(9),)),
        (knots.talk_for, (TABLE,)),
        (knots.talk_for, (peeled_table(9),)),
        (knots.last_part, (TABLE, (2, 0))),
        (knots.check_knot, (KNOTTED, ((1, 2), (0, 1)))),
        (knots.check_knot, (KNOTTED, ([1, 2], [0, 1]))),
    ]


def refused_calls():
    """Calls that raise an error, with arguments that could be modified."""
    return [
        (talks.check_table, ([[1, 2], [3]],)),
        (talks.check_talk, (["talk", 1, 1, []], TABLE)),
        (talks.flaw_of, (FLAWED, [[7] * 3] * 3)),
        (talks.check_flaw, ([FLAWED], TABLE, [])),
        (talks.two_sides, (PEOPLE, (2, 2, 2), [3, 1])),
        (talks.two_sides, (PEOPLE, [2, 2, 2], [1, 3])),
        (knots.talk_for, (KNOTTED,)),
        (knots.last_part, (KNOTTED, (0, 0))),
        (knots.knot_of, ([[1], [2]],)),
        (structures.check_structure, (["structure", 3, [[1], [2]]],)),
        (structures.threshold, (6, 3)),
        (structures.holders, (("structure", 3, ([1], [2])), 1)),
        (programs.check_program, ([["put", 1]], 3)),
        (programs.check_program, (PROGRAM + (["put", 1],), 4)),
        (programs.plain, (PROGRAM, [7, 10], 10)),
        (programs.plain, (list(PROGRAM), [7, 8], 10)),
        (programs.read_program, (TEXT + "\n",)),
        (programs.write_program, (list(PROGRAM),)),
        (quiet.run_quiet, (["structure", 3, [[1]]], 10, PROGRAM, [7, 8], list(COINS))),
        (quiet.run_quiet, (STRUCTURE, 10, PROGRAM, [7, 8, 9], list(COINS))),
        (quiet.run_quiet, (STRUCTURE, 10, PROGRAM, [7, 8], COINS[1:])),
        (quiet.run_quiet, (STRUCTURE, 9, PROGRAM, [7, 8], list(COINS))),
        (loud.run_loud, (STRUCTURE, 10, PROGRAM, [7, 8], list(MANY_COINS), [1, 3], list(LIES))),
        (loud.run_loud, (STRUCTURE, 10, PROGRAM, [7, 8], list(MANY_COINS), [1, 2], LIES + [None])),
        (loud.attack, (["structure", 3, [[1]]],)),
        (turning.turned, (STRUCTURE, 10, PROGRAM, [7, 8], [8, 8], list(COINS), [1, 2])),
        (turning.turned, (STRUCTURE, 10, PROGRAM, [7, 8], [8, 8], list(COINS), [2, 1])),
        (turning.turned_loud, (STRUCTURE, 10, PROGRAM, [7, 8], [7, 8], list(MANY_COINS), [1, 2], [1], list(LIES))),
        (turning.turned_loud, (FIRM, 10, PROGRAM, [7, 8], [7, 8], list(MANY_COINS), [1], [1, 2], list(LIES))),
        (turning.made_view, (STRUCTURE, 10, PROGRAM, [7, 0], [4, 4], list(COINS), [1, 2])),
        (tables.program_of, ([0, 1, 1, 0], [3, 1], 2)),
        (learning.learned, (STRUCTURE, 1000, PROGRAM, [7, 8], [1, 2])),
        (learning.loud_costs, (STRUCTURE, list(PROGRAM))),
    ]


def answer_of(function, arguments):
    """What a call gives: its answer, told attribute by attribute if it is a run, or the class of its error."""
    try:
        answer = function(*arguments)
    except ValueError as error:
        return type(error).__name__
    if type(answer) is quiet.QuietRun:
        return run_told(answer)
    return loud_told(answer) if type(answer) is loud.LoudRun else answer


def outcome(function, arguments):
    """What a call gives, as a copy."""
    return copy.deepcopy(answer_of(function, arguments))


def lists_in(value):
    """All lists in an answer."""
    inside = value.values() if type(value) is dict else value if type(value) in (list, tuple) else ()
    return ([value] if type(value) is list else []) + [found for item in inside for found in lists_in(item)]


def drawn_runs(rng, structure):
    """Calls of a run and its plain values, twice with the same program."""
    program = drawn_program(rng, structure[1], 8)
    found = []
    for m in (5, 6):
        inputs = [rng.randrange(m) for _ in puts_of(program)]
        coins = [rng.randrange(m) for _ in range(coins_taken(structure, program))]
        found.append((quiet.run_quiet, (structure, m, program, inputs, coins)))
        found.append((programs.plain, (program, inputs, m)))
        found.append((turning.turned, (structure, m, program, inputs, inputs[::-1], coins, [])))
        if structure in SOUND and structure[1] < 6:
            coins = [rng.randrange(m) for _ in range(loud_coins_taken(structure, program))]
            liars = rng.choice(within_greatest(structure))
            lies = [rng.choice((0, 0, 1)) for _ in range(50)]
            found.append((loud.run_loud, (structure, m, program, inputs, coins, liars, lies)))
            found.append((turning.turned_loud, (structure, m, program, inputs, inputs, coins, liars, liars, lies)))
    return found


def told(arguments):
    """What arguments are, written out, runs too."""
    return repr([vars(item) if type(item) in (quiet.QuietRun, loud.LoudRun) else item for item in arguments])


class SameAgain(unittest.TestCase):
    def test_nothing_is_modified(self):
        for function, arguments in calls() + refused_calls():
            with self.subTest(function.__name__):
                written = told(arguments)
                outcome(function, arguments)
                self.assertEqual(told(arguments), written)

    def test_the_same_call_gives_the_same_again(self):
        for function, arguments in calls() + refused_calls():
            with self.subTest(function.__name__):
                self.assertEqual(outcome(function, arguments), outcome(function, arguments))

    def test_with_other_calls_in_between(self):
        made = calls() + refused_calls()
        first = [outcome(*call) for call in made]
        rng = random.Random(2)
        order = list(range(len(made))) * 4
        rng.shuffle(order)
        for at in order:
            self.assertEqual(outcome(*made[at]), first[at], made[at][0].__name__)

    def test_with_others_of_the_same_sizes_in_between(self):
        rng = random.Random(3)
        tables = [composed_table(rng, 4, 4, True) for _ in range(12)]
        trees = [random_tree(rng, 4, (4, 4), (2, 2), (0, 1)) for _ in range(4)]
        made = [(function, (table,)) for table in tables for function in (knots.knot_of, knots.talk_for)]
        made += [(knots.last_part, (table, inputs)) for table in tables for inputs in ((0, 0), (3, 2))]
        made += [(talks.flaw_of, (("talk", 2, 2, tree), table)) for table in tables[:4] for tree in trees]
        made += [call for structure in QUIET for call in drawn_runs(rng, structure)]
        first = [outcome(*call) for call in made]
        for _ in range(3):
            for call, answer in sorted(zip(made, first), key=lambda pair: rng.random()):
                self.assertEqual(outcome(*call), answer)

    def test_lists_that_are_modified(self):
        changed = 0
        for function, arguments in calls():
            with self.subTest(function.__name__):
                first = outcome(function, arguments)
                for found in lists_in(answer_of(function, arguments)):
                    found[:] = [None]
                    changed += 1
                self.assertEqual(outcome(function, arguments), first)
        self.assertGreater(changed, 40)

    def test_inputs_and_coins_that_are_modified_afterwards(self):
        inputs, coins = [7, 8], list(COINS)
        run = quiet.run_quiet(STRUCTURE, 10, PROGRAM, inputs, coins)
        values = programs.plain(PROGRAM, inputs, 10)
        written = repr((run_told(run), values))
        inputs.clear()
        coins[:] = [0] * 12
        self.assertEqual(repr((run_told(run), values)), written)

    def test_what_loud_runs_and_turnings_are_handed_is_modified_afterwards(self):
        inputs, others, coins, group, liars, lies = [7, 8], [7, 3], list(MANY_COINS), [1, 2], [2], list(LIES)
        run = loud.run_loud(FIRM, 10, PROGRAM, inputs, coins, liars, lies)
        found = [turning.turned_loud(FIRM, 10, PROGRAM, inputs, others, coins, group, liars, lies),
                 turning.turned(FIRM, 10, PROGRAM, inputs, others, coins, group),
                 turning.made_view(FIRM, 10, PROGRAM, inputs, [3], coins, group),
                 learning.learned(FIRM, 10, PROGRAM, inputs, group),
                 tables.program_of((0, 1, 1, 0), group, 2)]
        written = repr((loud_told(run), found))
        for handed in (inputs, others, coins, group, liars, lies):
            handed[:] = [0]
        self.assertEqual(repr((loud_told(run), found)), written)

    def test_a_group_that_is_modified_afterwards(self):
        group = [1, 3]
        talk = talks.two_sides(PEOPLE, (2, 2, 2), group)
        written = repr(talk)
        group[:] = [2]
        self.assertEqual(repr(talk), written)
        self.assertEqual(talks.two_sides(PEOPLE, (2, 2, 2), group)[3][2], ((0,), (1,), (0,), (1,)))
        self.assertEqual(talks.two_sides(PEOPLE, (2, 2, 2), [1, 3]), talk)

    def test_answers_are_integers_strings_and_tuples(self):
        for function, arguments in calls():
            answer = outcome(function, arguments)
            with self.subTest(function.__name__):
                if function in (talks.check_flaw, knots.check_knot, structures.is_allowed):
                    self.assertIn(answer, (True, False))
                    self.assertIs(type(answer), bool)
                elif function in (talks.check_table, talks.check_talk):
                    self.assertTrue(answer is None or answer == "BadTalk")
                elif function in (structures.holders, programs.plain, turning.turned, turning.turned_loud, learning.learned):
                    self.assertIs(type(answer), list)
                    self.assertTrue(plain_kinds(tuple(answer)))
                elif function in (quiet.run_quiet, loud.run_loud):
                    self.assertEqual({type(attribute) for attribute in answer.values()}, {list})
                    self.assertTrue(plain_kinds(tuple(map(tuple, answer.values()))))
                else:
                    self.assertTrue(plain_kinds(answer))

    def test_arguments_by_name(self):
        pairs = itertools.chain(calls(), refused_calls())
        for function, arguments in pairs:
            names = function.__code__.co_varnames[:function.__code__.co_argcount]
            with self.subTest(function.__name__):
                def by_name(*given):
                    return function(**dict(zip(names, given)))
                self.assertEqual(outcome(by_name, arguments), outcome(function, arguments))


if __name__ == "__main__":
    unittest.main()
