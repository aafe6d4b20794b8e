"""[9] and [10]: jointhands/structures.py."""

import itertools
import random
import unittest

from jointhands.errors import BadStructure, JointError
from jointhands.structures import check_structure, holders, is_allowed, three_groups, threshold, two_groups
from tests.helpers import changed_ways, no_integers, strangers, within
from tests.runs import QUIET, drawn_structure, first_of, is_structure, subsets

TWELVE = ("structure", 8, tuple(itertools.combinations(range(1, 9), 2))[:12])
THIRTEEN = ("structure", 8, tuple(itertools.combinations(range(1, 9), 2))[:13])
# Groups that together are everybody two by two, only three by three, and not even so.
LOUD = [
    ("structure", 2, ((1,), (2,))),
    ("structure", 3, ((2, 3), (1,))),
    ("structure", 4, ((1, 2), (1, 3), (2, 3), (3, 4))),
    ("structure", 5, ((1, 2, 3), (2, 3, 4), (1, 5), (4, 5))),
]
NOT_SOUND = [
    ("structure", 3, ((1,), (2,), (3,))),
    ("structure", 4, ((1, 2), (3,), (4,))),
    ("structure", 5, tuple(itertools.combinations(range(1, 6), 2))),
    ("structure", 8, ((1, 2, 3), (4, 5, 6), (1, 5, 7), (3, 7, 8))),
]
SOUND = [
    ("structure", 2, ((2,),)),
    ("structure", 4, ((1,), (2,), (3,), (4,))),
    ("structure", 8, ((1, 2, 3, 4, 5, 6, 8),)),
    ("structure", 8, ((1, 2), (3, 4), (5, 6), (7, 8))),
    TWELVE,
]


def all_structures(n):
    """All structures of n people with the groups in ascending order."""
    groups = [group for group in subsets(range(1, n + 1)) if 0 < len(group) < n]
    return [("structure", n, some) for some in subsets(groups) if is_structure(("structure", n, some))]


class CheckStructure(unittest.TestCase):
    def let(self, structure):
        self.assertIsNone(check_structure(structure))

    def refused(self, structure):
        try:
            check_structure(structure)
        except BadStructure as error:
            self.assertIs(type(error), BadStructure)
            self.assertIsInstance(error, JointError)
            return
        self.fail(f"let: {structure!r}")

    def test_those_that_are(self):
        for structure in QUIET + LOUD + NOT_SOUND + SOUND:
            self.let(structure)

    def test_all_of_few_people(self):
        for n in (2, 3):
            groups = subsets(range(0, n + 2))
            let = 0
            for some in itertools.chain.from_iterable(itertools.permutations(groups, k) for k in (0, 1, 2)):
                structure = ("structure", n, some)
                if is_structure(structure):
                    let += 1
                    self.let(structure)
                else:
                    self.refused(structure)
            self.assertEqual(let, {2: 4, 3: 6 + 18}[n])
        self.assertEqual(len(all_structures(2)), 3)
        self.assertEqual(len(all_structures(3)), 17)
        self.assertEqual(len(all_structures(4)), 165)
        for structure in all_structures(4):
            self.let(structure)

    def test_numbers_of_people(self):
        for n in range(2, 9):
            self.let(("structure", n, ((1,),)))
            self.let(("structure", n, (tuple(range(1, n)),)))
            self.let(("structure", n, (tuple(range(2, n + 1)),)))
        for n in (1, 0, -1, -8, 9, 10, 100, 10 ** 5000, -10 ** 5000):
            self.refused(("structure", n, ((1,),)))
            self.refused(("structure", n, ()))
        for n in no_integers() + [2.0, "3"]:
            self.refused(("structure", n, ((1,),)))

    def test_numbers_of_groups(self):
        self.let(TWELVE)
        self.refused(THIRTEEN)
        self.refused(("structure", 3, ()))
        self.let(("structure", 8, THIRTEEN[2][1:]))
        self.refused(("structure", 8, tuple(itertools.combinations(range(1, 9), 4))))
        self.refused(("structure", 8, THIRTEEN[2] * 1000))

    def test_groups_in_any_order(self):
        for order in itertools.permutations(((1, 2), (3,), (1, 4), (2, 4))):
            self.let(("structure", 4, order))

    def test_somebody_in_every_group_and_somebody_in_none(self):
        self.let(("structure", 4, ((1, 2), (1, 3))))
        self.let(("structure", 4, ((2, 4), (3, 4))))
        self.let(("structure", 8, ((1,),)))

    def test_a_group_that_is_not_right(self):
        wrong = [(), (1, 2, 3, 4), (2, 1), (3, 1, 2), (1, 1), (1, 2, 2), (2, 2), (0,), (0, 1), (5,), (1, 5), (-1,),
                 (-1, 2), (-4, -3), (1, 2, 3, 4, 5), (1, 10 ** 5000), (-10 ** 5000,), [1, 2], {1, 2}, {1: 2}, "12",
                 b"12", b"\x01\x02", range(1, 3), 1, None, (True,), (1.0,), (1, 2.0), (None,), ((1,),), ("1",)]
        for group in wrong:
            self.refused(("structure", 4, (group,)))
            self.refused(("structure", 4, ((1, 3), group)))
            self.refused(("structure", 4, (group, (3, 4))))

    def test_groups_within_others_and_twice(self):
        for one, other in (((1,), (1, 2)), ((2,), (1, 2, 3)), ((2, 3), (1, 2, 3)), ((1, 2), (1, 2)), ((4,), (4,))):
            for groups in ((one, other), (other, one), ((3, 4), one, other), (one, (2, 4), other), (other, (1, 4), one)):
                self.refused(("structure", 4, groups))

    def test_lists_for_tuples(self):
        self.let(("structure", 3, ((1,), (2,))))
        for other in (["structure", 3, ((1,), (2,))], ("structure", 3, [(1,), (2,)]), ("structure", 3, ([1], (2,))),
                      ("structure", 3, ((1,), [2])), ("structure", 3, {(1,): 0, (2,): 0})):
            self.refused(other)

    def test_true_and_other_numbers(self):
        for number in no_integers():
            self.refused(("structure", 3, ((number,),)))
            self.refused(("structure", 3, ((number, 2),)))
            self.refused(("structure", 3, ((1, number),)))
            self.refused(("structure", 3, ((1,), (number,))))

    def test_words_and_lengths(self):
        groups = ((1,), (2,))
        for word in ("", "Structure", "structure ", "structures", "group", "program", b"structure", None, 0, 3, (), [],
                     "s", ("structure",)):
            self.refused((word, 3, groups))
        for other in ((), ("structure",), ("structure", 3), ("structure", 3, groups, groups), ("structure", groups),
                      ("structure", groups, 3), (3, groups), ("structure", 3, *groups), ("structure", 3, (1, 2)),
                      ("structure", 3, 1)):
            self.refused(other)

    def test_one_thing_changed(self):
        for structure in QUIET[:12] + LOUD[:3] + [TWELVE]:
            for other in changed_ways(structure):
                if is_structure(other):
                    self.let(other)
                else:
                    self.refused(other)

    def test_whatever_else(self):
        for other in strangers():
            self.refused(other)
            self.refused(("structure", 3, other))
            self.refused(("structure", 3, (other,)))
            self.refused(("structure", 3, ((1,), other)))
            if type(other) is not int:
                self.refused(("structure", other, ((1,),)))
                self.refused(("structure", 3, ((other,),)))
            self.refused((other, 3, ((1,),)))
            self.refused((other, other, other))

    def test_long_ones(self):
        with within(60):
            self.refused(("structure", 3, (tuple(range(1, 1000001)),)))
            self.refused(("structure", 3, ((1,),) * 1000000))
            self.refused(("structure",) * 1000000)

    def test_all_functions_look_at_the_structure(self):
        wrong = strangers() + [THIRTEEN, ("structure", 3, ((1,), (1, 2))), ("structure", 3, ((2, 1),)),
                               ("structure", 1, ((1,),)), ["structure", 3, ((1,),)]]
        for structure in wrong:
            for function, arguments in ((two_groups, ()), (three_groups, ()), (holders, (1,)), (is_allowed, ((),)),
                                        (is_allowed, ([1],))):
                with self.assertRaises(BadStructure):
                    function(structure, *arguments)


class Threshold(unittest.TestCase):
    def test_all(self):
        many = {2: (2,), 3: (3, 3), 4: (4, 6, 4), 5: (5, 10, 10, 5), 6: (6, 0, 0, 0, 6), 7: (7, 0, 0, 0, 0, 7),
                8: (8, 0, 0, 0, 0, 0, 8)}
        for n in range(2, 9):
            for t in range(1, n):
                if many[n][t - 1] == 0:
                    with self.assertRaises(BadStructure):
                        threshold(n, t)
                    continue
                structure = threshold(n, t)
                groups = structure[2]
                self.assertEqual(repr(structure), repr(("structure", n, tuple(sorted(groups)))))
                self.assertEqual(set(groups), {group for group in subsets(range(1, n + 1)) if len(group) == t})
                self.assertEqual(len(groups), many[n][t - 1])
                self.assertTrue(is_structure(structure))
                self.assertIsNone(check_structure(structure))

    def test_by_hand(self):
        self.assertEqual(threshold(2, 1), ("structure", 2, ((1,), (2,))))
        self.assertEqual(threshold(4, 2), ("structure", 4, ((1, 2), (1, 3), (1, 4), (2, 3), (2, 4), (3, 4))))

    def test_quiet_and_sound_ones(self):
        # t people of n are quiet if 2 t < n, sound if 3 t < n.
        for n in range(2, 9):
            for t in (1, n - 1) if n > 5 else range(1, n):
                self.assertEqual(two_groups(threshold(n, t)) is None, 2 * t < n, (n, t))
                self.assertEqual(three_groups(threshold(n, t)) is None, 3 * t < n, (n, t))

    def test_numbers_that_are_not_right(self):
        for n, t in ((2, 0), (2, 2), (5, 0), (5, 5), (5, 6), (5, -1), (1, 1), (1, 0), (0, 0), (0, -1), (9, 1), (9, 8),
                     (-3, 1), (10 ** 5000, 1), (5, 10 ** 5000), (8, 4), (6, 2), (8, 8)):
            with self.assertRaises(BadStructure):
                threshold(n, t)

    def test_other_kinds(self):
        for other in strangers() + no_integers():
            if type(other) is not int:
                for n, t in ((other, 1), (3, other), (other, other)):
                    with self.assertRaises(BadStructure):
                        threshold(n, t)


class GroupsThatAreEverybody(unittest.TestCase):
    def check(self, structure):
        for function, many in ((two_groups, 2), (three_groups, 3)):
            found = function(structure)
            self.assertEqual(repr(found), repr(first_of(structure, many)), structure)
        return (two_groups(structure), three_groups(structure))

    def test_by_hand(self):
        self.assertEqual(self.check(("structure", 3, ((2, 3), (1,)))), ((1, 2), (1, 1, 2)))
        self.assertEqual(self.check(("structure", 3, ((1,), (2,), (3,)))), (None, (1, 2, 3)))
        self.assertEqual(self.check(("structure", 4, ((2, 4), (2, 3), (1, 4), (1, 2)))), ((2, 3), (1, 2, 3)))
        self.assertEqual(self.check(("structure", 4, ((2, 3), (3, 4), (1, 2)))), ((2, 3), (1, 2, 3)))
        self.assertEqual(self.check(("structure", 4, ((1, 2), (1, 3), (3, 4)))), ((1, 3), (1, 1, 3)))
        self.assertEqual(self.check(("structure", 5, ((1, 2), (3, 4), (2, 4), (3, 5)))), (None, (1, 2, 4)))
        self.assertEqual(self.check(("structure", 8, ((1, 2), (3, 4), (5, 6), (7, 8)))), (None, None))
        self.assertEqual(self.check(("structure", 2, ((1,),))), (None, None))

    def test_those_above(self):
        for structure in LOUD:
            two, three = self.check(structure)
            self.assertIsNotNone(two)
            self.assertIsNotNone(three)
        for structure in NOT_SOUND:
            two, three = self.check(structure)
            self.assertIsNone(two)
            self.assertIsNotNone(three)
        for structure in SOUND:
            self.assertEqual(self.check(structure), (None, None))
        for structure in QUIET:
            self.assertIsNone(self.check(structure)[0])

    def test_all_of_few_people(self):
        for n in (2, 3, 4):
            for structure in all_structures(n):
                self.check(structure)
                self.check(("structure", n, structure[2][::-1]))

    def test_drawn_ones(self):
        rng = random.Random(10)
        met = {}
        for _ in range(500):
            two, three = self.check(drawn_structure(rng))
            kind = (two is not None, three is not None, three is not None and len(set(three)))
            met[kind] = met.get(kind, 0) + 1
        self.assertEqual(set(met), {(False, False, False), (False, True, 3), (True, True, 2), (True, True, 3)})
        self.assertGreater(min(met.values()), 9)


class Holders(unittest.TestCase):
    def test_by_hand(self):
        structure = ("structure", 5, ((1, 2), (1, 3), (1, 4, 5)))
        self.assertEqual([holders(structure, part) for part in (1, 2, 3)], [[3, 4, 5], [2, 4, 5], [2, 3]])
        self.assertEqual(holders(("structure", 8, (tuple(range(1, 8)),)), 1), [8])

    def test_everyone_outside_of_the_group(self):
        rng = random.Random(9)
        for structure in QUIET + LOUD + NOT_SOUND + SOUND + [drawn_structure(rng) for _ in range(100)]:
            _, n, groups = structure
            for part, group in enumerate(groups, 1):
                found = holders(structure, part)
                self.assertIs(type(found), list)
                self.assertEqual(found, [person for person in range(1, n + 1) if person not in group])
                self.assertGreater(len(found), 0)

    def test_who_stands_in_every_group_holds_no_part(self):
        structure = ("structure", 5, ((1, 2), (1, 3), (1, 4)))
        for part in (1, 2, 3):
            self.assertNotIn(1, holders(structure, part))
            self.assertIn(5, holders(structure, part))

    def test_parts_that_there_are_not(self):
        for part in (0, -1, 4, 5, 100):
            self.assertEqual(holders(("structure", 5, ((1, 2), (1, 3), (1, 4))), part), [])

    def test_the_list_belongs_to_the_caller(self):
        structure = ("structure", 3, ((1,), (2,)))
        holders(structure, 1).clear()
        holders(structure, 1).append(7)
        self.assertEqual(holders(structure, 1), [2, 3])


class IsAllowed(unittest.TestCase):
    def check(self, structure, people, expected):
        for given in (tuple(people), list(people)):
            self.assertIs(is_allowed(structure, given), expected, (structure, given))

    def test_all_groups(self):
        rng = random.Random(91)
        for structure in QUIET + LOUD + NOT_SOUND + SOUND + [drawn_structure(rng) for _ in range(60)]:
            _, n, groups = structure
            for people in subsets(range(1, n + 1)):
                self.check(structure, people, any(set(people) <= set(group) for group in groups))

    def test_nobody_and_everybody(self):
        for structure in QUIET + LOUD:
            self.check(structure, (), True)
            self.check(structure, range(1, structure[1] + 1), False)

    def test_in_part(self):
        structure = ("structure", 6, ((1, 2, 3), (3, 4), (5, 6)))
        for people in ((1,), (1, 3), (2, 3), (1, 2, 3), (3, 4), (5, 6)):
            self.check(structure, people, True)
        for people in ((1, 4), (2, 3, 4), (3, 5), (1, 2, 3, 4), (1, 2, 3, 5), (4, 5, 6)):
            self.check(structure, people, False)

    def test_people_that_there_are_not(self):
        structure = ("structure", 4, ((1, 2), (3, 4)))
        for people in ((0,), (5,), (-1,), (0, 1), (1, 2, 5), (3, 4, 5), (0, 1, 2), (10 ** 5000,)):
            self.check(structure, people, False)


if __name__ == "__main__":
    unittest.main()
