"""The looks of loud runs, turnings, made views and learning at what they are handed: each error, and their order."""

import itertools
import unittest

from jointhands.errors import (BadCoins, BadGroup, BadInputs, BadLies, BadModulus, BadProgram, BadStructure, BadTurn,
                               JointError)
from jointhands.learning import learned, loud_costs, quiet_costs
from jointhands.loud import attack, run_loud
from jointhands.turning import made_view, turned, turned_loud
from tests.helpers import no_integers, strangers
from tests.loud_runs import loud_coins_taken
from tests.runs import coins_taken

STRUCTURE = ("structure", 4, ((1, 2), (3,)))
NOT_SOUND = ("structure", 4, ((1, 2), (3,), (4,)))
NOT_QUIET = ("structure", 4, ((1, 2), (3, 4)))
NO_STRUCTURE = ("structure", 4, ((1, 2), (5,)))
PROGRAM = (("put", 1), ("put", 4), ("times", 0, 1), ("tell", 2, (1, 3)))
GOOD = {
    "structure": STRUCTURE, "m": 10, "program": PROGRAM, "inputs": (7, 4), "others": (7, 9), "values": (8,),
    "coins": (3,) * 40, "group": (1, 2), "liars": (1,), "lies": (0, 3, -1),
}
ERRORS = {
    "structure": BadStructure, "m": BadModulus, "program": BadProgram, "inputs": BadInputs, "others": BadInputs,
    "values": BadInputs, "coins": BadCoins, "group": BadGroup, "liars": BadGroup, "lies": BadLies,
}
FUNCTIONS = {
    run_loud: ("structure", "m", "program", "inputs", "coins", "liars", "lies"),
    turned: ("structure", "m", "program", "inputs", "others", "coins", "group"),
    turned_loud: ("structure", "m", "program", "inputs", "others", "coins", "group", "liars", "lies"),
    made_view: ("structure", "m", "program", "inputs", "values", "coins", "group"),
    learned: ("structure", "m", "program", "inputs", "group"),
    quiet_costs: ("structure", "program"),
    loud_costs: ("structure", "program"),
    attack: ("structure",),
}
PLAIN_RUNS = (run_loud, turned, turned_loud, made_view, learned)


def empty(value):
    """Whether this is a list or tuple of nothing, which is a group and lies, too."""
    return type(value) in (list, tuple) and len(value) == 0


def wrong_rows(good):
    """Values that are no list or tuple of integers from 0 to 9."""
    found = [good[:-1] + (10,), (-1,) + good[1:], good[:-1] + (10 ** 5000,), (good,)]
    for other in no_integers():
        found += [(other,) + good[1:], list(good[:-1]) + [other]]
    return found + strangers() + [set(good), dict.fromkeys(good), range(len(good)), iter(good), bytes(good),
                                  "".join(map(str, good))]


def wrong_groups():
    found = [(1, 3), (2, 3), (4,), (1, 2, 3), (1, 2, 3, 4), (2, 1), (1, 1), (0,), (5,), (-1, 1), (1, 2, 10 ** 5000), ((1,),)]
    for other in no_integers():
        found += [(other,), [1, other]]
    return found + [other for other in strangers() if not empty(other)] + [{1}, {1: 2}, range(1, 2), iter((1,)), "1", b"\x01"]


def wrong_lies():
    found = [1, "1", {1}, {1: 1}, range(2), iter((1,)), b"\x01", bytearray(2)]
    for other in no_integers():
        found += [(other,), [0, other], (0,) * 50 + (other,)]
    return found + [other for other in strangers() if type(other) not in (list, tuple)] + [(None,), ((),), [[0]]]


WRONG = {
    "structure": strangers() + [NO_STRUCTURE, ("structure", 4, ()), ["structure", 4, ((1, 2), (3,))],
                                ("structure", 4, ((1, 2), (1,))), ("structure", True, ((1,),))],
    "m": [1, 0, -1, 1000001, 10.0, "10"] + [other for other in strangers() if other is not True and type(other) is not int],
    "program": strangers() + [PROGRAM + (("put", 5),), list(PROGRAM), PROGRAM + (("tell", 3, (1,)),), (("put", 1),) * 401],
    "inputs": wrong_rows(GOOD["inputs"]) + [(7, 4, 0), (7,)],
    "others": wrong_rows(GOOD["others"]) + [(7, 9, 0), (7,)],
    "values": wrong_rows(GOOD["values"]) + [(8, 8), ()],
    "coins": wrong_rows((3,) * 40) + [(3,) * 40 + (10,), (3,) * 40 + (True,), (3,) * 4],
    "group": wrong_groups(),
    "liars": wrong_groups(),
    "lies": wrong_lies(),
}


def coins_for(function):
    """As many coins as a call takes."""
    many = coins_taken(STRUCTURE, PROGRAM) if function in (turned, made_view) else loud_coins_taken(STRUCTURE, PROGRAM)
    return tuple((3 * at + 1) % 10 for at in range(many))


class Looks(unittest.TestCase):
    def good(self, function):
        given = {name: GOOD[name] for name in FUNCTIONS[function]}
        if "coins" in given:
            given["coins"] = coins_for(function)
        return given

    def refused(self, error, function, given):
        with self.assertRaises(JointError) as caught:
            function(**given)
        self.assertIs(type(caught.exception), error, function.__name__)
        return caught.exception

    def test_all_that_is_right(self):
        for function in FUNCTIONS:
            function(**self.good(function))
            given = {name: list(value) if type(value) is tuple and name not in ("structure", "program") else value
                     for name, value in self.good(function).items()}
            self.assertEqual(repr(type(function(**given))), repr(type(function(**self.good(function)))))

    def test_each_alone_and_with_all_later_ones_wrong(self):
        for function, names in FUNCTIONS.items():
            for at, name in enumerate(names):
                for number, wrong in enumerate(WRONG[name]):
                    with self.subTest(f"{function.__name__} {name} {number}"):
                        given = {**self.good(function), name: wrong}
                        self.refused(ERRORS[name], function, given)
                        given.update(dict.fromkeys(names[at + 1:]))
                        self.refused(ERRORS[name], function, given)

    def test_all_patterns(self):
        wrong = {"structure": NO_STRUCTURE, "m": 1, "program": PROGRAM + (("put", 5),), "inputs": (7,), "others": (7,),
                 "values": (10,), "coins": (1, 2), "group": (1, 3), "liars": (1, 4), "lies": (0, None)}
        for function, names in FUNCTIONS.items():
            for pattern in itertools.product((False, True), repeat=len(names)):
                bad = [name for name, is_bad in zip(names, pattern) if is_bad]
                if bad:
                    given = {**self.good(function), **{name: wrong[name] for name in bad}}
                    error = self.refused(ERRORS[bad[0]], function, given)
                    if bad[0] == "program":
                        self.assertEqual(error.row, 4)

    def test_structures_that_are_not_quiet_or_not_sound(self):
        for function in FUNCTIONS:
            given = self.good(function)
            if "coins" in given:
                given["coins"] = (1,) * loud_coins_taken(NOT_SOUND, PROGRAM)
            given["structure"] = NOT_SOUND
            if function == turned_loud:
                self.refused(BadStructure, function, given)
            else:
                function(**given)
            given["structure"] = NOT_QUIET
            if function == learned:
                self.assertEqual(function(**given), [(7, 4)])
            else:
                self.refused(BadStructure, function, given)

    def test_programs_are_for_the_people_of_the_structure(self):
        for function in FUNCTIONS:
            if "program" in FUNCTIONS[function]:
                for program, row in ((PROGRAM + (("put", 5),), 4), (PROGRAM + (("tell", 0, (4, 5)),), 4)):
                    self.assertEqual(self.refused(BadProgram, function, {**self.good(function), "program": program}).row, row)

    def test_the_greatest_numbers(self):
        for function in PLAIN_RUNS:
            for m in (2, 9, 1000000):
                given = self.good(function)
                given["m"] = m
                for name in ("inputs", "others", "values", "coins"):
                    if name in given:
                        given[name] = (m - 1,) * len(given[name])
                if m ** 2 > 20000 and function == learned:
                    self.refused(BadInputs, function, given)
                    continue
                function(**given)
                for name in ("inputs", "others", "values", "coins"):
                    if name in given:
                        self.refused(ERRORS[name], function, {**given, name: (m,) + given[name][1:]})

    def test_as_many_coins_as_are_taken(self):
        for function in PLAIN_RUNS[:4]:
            given = self.good(function)
            for more in ((0,), (9, 9, 9), (5,) * 100):
                function(**{**given, "coins": given["coins"] + more})
                self.refused(BadCoins, function, {**given, "coins": given["coins"] + more + (10,)})
            self.refused(BadCoins, function, {**given, "coins": given["coins"][1:]})

    def test_groups_of_nobody_and_greatest_ones(self):
        for function in (turned, made_view, learned):
            for group in ((), [], (1,), [2], (1, 2), (3,)):
                function(**{**self.good(function), "group": group})
        for liars in ((), [], (1,), (2,), [1, 2], (3,)):
            run_loud(**{**self.good(run_loud), "liars": liars})
        for group, liars in (((), ()), ((1,), (1,)), ((1, 2), (2,)), ([1, 2], [1, 2]), ((3,), [])):
            turned_loud(**{**self.good(turned_loud), "others": (7, 9), "group": group, "liars": liars})

    def test_liars_outside_of_the_group(self):
        given = self.good(turned_loud)
        for group, liars in (((), (1,)), ((1,), (2,)), ((1,), (1, 2)), ((1, 2), (3,)), ((3,), (1,))):
            for lies, others in itertools.product((GOOD["lies"], None), ((7, 9), (8, 9))):
                self.refused(BadGroup, turned_loud, {**given, "group": group, "liars": liars, "lies": lies, "others": others})

    def test_bad_turns_come_last(self):
        for function in (turned, turned_loud):
            given = {**self.good(function), "others": (8, 4)}
            self.refused(BadTurn, function, given)
            for name in FUNCTIONS[function]:
                wrong = {"structure": NOT_QUIET, "m": 1, "program": (), "inputs": (7,), "others": (7, 10), "coins": (),
                         "group": (4,), "liars": (3,), "lies": None}[name]
                self.refused(ERRORS[name], function, {**given, name: wrong})
            function(**{**given, "group": (3,), **({"liars": (3,)} if function == turned_loud else {})})


if __name__ == "__main__":
    unittest.main()
