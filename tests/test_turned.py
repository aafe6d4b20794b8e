"""[16]: turned coins, and made views, of quiet runs."""

import random
import unittest

from jointhands.errors import BadCoins, BadGroup, BadInputs, BadTurn
from jointhands.quiet import run_quiet, view_quiet
from jointhands.turning import made_view, turned
from tests.helpers import no_integers, strangers, within
from tests.runs import (QUIET, ByHand, coins_taken, drawn_program, drawn_quiet, plain_by_hand, puts_of, view_by_hand,
                        within_greatest)
from tests.turnings import first_around, others_for, told_to, turned_right

# Part 1 is held by 2 and 3, part 2 by 1 and 3.
TWO_PARTS = ("structure", 3, ((1,), (2,)))
PROGRAM = (("put", 1), ("put", 3), ("times", 0, 1), ("tell", 2, (1, 2)))


class Drawn(unittest.TestCase):
    """What is drawn for a structure: a call of a run, other inputs, and a group."""

    def drawn(self, rng, structure, rows, more=0):
        m = rng.choice((2, 3, 5, 10, 999999))
        program = drawn_program(rng, structure[1], rows)
        inputs = [rng.randrange(m) for _ in puts_of(program)]
        group = rng.choice(within_greatest(structure))
        coins = [rng.randrange(m) for _ in range(coins_taken(structure, program) + more)]
        return structure, m, program, inputs, others_for(rng, m, program, inputs, group), coins, group

    def many_drawn(self, seed, rounds=12):
        rng = random.Random(seed)
        with within(900):
            for structure in QUIET:
                for _ in range(rounds):
                    yield self.drawn(rng, structure, rng.randrange(1, 10), rng.choice((0, 0, 3)))
            for _ in range(10 * rounds):
                yield self.drawn(rng, drawn_quiet(rng), rng.randrange(1, 8))


class Turned(Drawn):
    def test_by_hand(self):
        # Person 1 is in the first group: part 1 is turned, by 6 - 4 where 3 deals its input.
        # 1 deals 5 * 5 both times, 2 deals 2 * 9 and then 2 * 1, 3 deals 2 * 5 + 5 * 9 and then 2 * 5 + 5 * 1.
        coins = (2, 9, 5, 6, 8)
        self.assertEqual(turned(TWO_PARTS, 10, PROGRAM, (7, 4), (7, 6), coins, (1,)), [2, 1, 5, 0, 8])
        # Person 2 is in the second one, the last: no coin changes.
        self.assertEqual(turned(TWO_PARTS, 10, PROGRAM, (7, 4), (7, 6), coins, (2,)), [2, 9, 5, 6, 8])
        self.assertEqual(turned(TWO_PARTS, 10, PROGRAM, (7, 4), (1, 6), coins + (3, 3), [2]), [2, 9, 5, 6, 8])
        # Nobody lies within the first group, too.
        self.assertEqual(turned(TWO_PARTS, 10, PROGRAM, (7, 4), (7, 6), coins, ()), [2, 1, 5, 0, 8])
        # Here 1 deals its input and 5 * 5, 2 deals 2 * 9 and then 3 * 9, 3 deals 2 * 5 + 5 * 9 and then 3 * 5 + 5 * 9.
        self.assertEqual(turned(TWO_PARTS, 10, PROGRAM, [7, 4], [8, 4], [2, 9, 5, 6, 8], []), [3, 9, 5, 5, 3])

    def test_by_the_words(self):
        changed = 0
        for structure, m, program, inputs, others, coins, group in self.many_drawn(16):
            found = turned(structure, m, program, inputs, others, coins, group)
            before = ByHand(structure, m, program, inputs, coins)
            after = ByHand(structure, m, program, others, found)
            self.assertEqual(len(found), len(before.taken))
            self.assertTrue(turned_right(structure, m, before, after, coins, found, group))
            changed += found != coins
        self.assertGreater(changed, 50)

    def check_views(self, structure, m, program, inputs, others, coins, group):
        """The views of both runs are the same but for letters of part b in tellings to members."""
        found = turned(structure, m, program, inputs, others, coins, group)
        before, after = [run_quiet(structure, m, program, given, drawn)
                         for given, drawn in ((inputs, coins), (others, found))]
        plain, other_plain = plain_by_hand(program, inputs, m), plain_by_hand(program, others, m)
        part = first_around(structure, group)
        expected = []
        for sender, receiver, row, about, number in view_quiet(before, program, inputs, group)[2]:
            if program[row][0] == "tell" and about == part:
                number = (number + other_plain[row] - plain[row]) % m
            expected.append((sender, receiver, row, about, number))
        view = view_quiet(before, program, inputs, group)
        self.assertEqual(view_quiet(after, program, others, group), view[:2] + (tuple(expected),))
        agreeing = told_to(program, group, plain) == told_to(program, group, other_plain)
        self.assertEqual(view_quiet(after, program, others, group) == view, agreeing)
        return agreeing and list(inputs) != list(others)

    def test_views(self):
        agreeing = sum(self.check_views(*call) for call in self.many_drawn(17))
        self.assertGreater(agreeing, 50)

    def test_turning_back_and_on(self):
        rng = random.Random(18)
        for structure, m, program, inputs, others, coins, group in self.many_drawn(18):
            there = turned(structure, m, program, inputs, others, coins, group)
            self.assertEqual(turned(structure, m, program, others, inputs, there, group), coins[:len(there)])
            third = others_for(rng, m, program, inputs, group)
            self.assertEqual(turned(structure, m, program, others, third, there, group),
                             turned(structure, m, program, inputs, third, coins, group))
            self.assertEqual(turned(structure, m, program, inputs, inputs, coins, group), coins[:len(there)])

    def test_the_last_group(self):
        for structure, m, program, inputs, others, coins, group in self.many_drawn(19):
            if first_around(structure, group) == len(structure[2]):
                many = coins_taken(structure, program)
                self.assertEqual(turned(structure, m, program, inputs, others, coins, group), coins[:many])

    def test_kinds(self):
        for structure, m, program, inputs, others, coins, group in self.many_drawn(20, 2):
            found = turned(structure, m, program, inputs, others, coins, group)
            self.assertIs(type(found), list)
            self.assertEqual(repr(turned(structure, m, program, tuple(inputs), tuple(others), tuple(coins), list(group))),
                             repr(found))

    def test_the_list_belongs_to_the_caller(self):
        coins = [2, 9, 5, 6, 8]
        for group in ((1,), (2,), ()):
            found = turned(TWO_PARTS, 10, PROGRAM, [7, 4], [7, 4], coins, group)
            self.assertEqual(found, coins)
            found.clear()
            self.assertEqual(turned(TWO_PARTS, 10, PROGRAM, [7, 4], [7, 4], coins, group), [2, 9, 5, 6, 8])
        self.assertEqual(coins, [2, 9, 5, 6, 8])

    def test_bad_turns(self):
        coins = (2, 9, 5, 6, 8)
        for others, group in (((6, 4), (1,)), ((6, 5), (1,)), ((0, 4), [1])):
            with self.assertRaises(BadTurn) as caught:
                turned(TWO_PARTS, 10, PROGRAM, (7, 4), others, coins, group)
            self.assertIs(type(caught.exception), BadTurn)
            self.assertEqual(len(turned(TWO_PARTS, 10, PROGRAM, (7, 4), others, coins, (2,))), 5)
            self.assertEqual(len(turned(TWO_PARTS, 10, PROGRAM, (7, 4), others, coins, ())), 5)
        # Only the second input of person 2, who puts in twice, is another one.
        program = (("put", 2), ("put", 3), ("put", 2))
        with self.assertRaises(BadTurn):
            turned(TWO_PARTS, 10, program, (1, 1, 1), (1, 1, 2), (0, 0, 0), (2,))
        self.assertEqual(turned(TWO_PARTS, 10, program, (1, 1, 1), (1, 2, 1), (0, 0, 0), (2,)), [0, 0, 0])


class MadeViews(Drawn):
    def test_by_hand(self):
        # Person 1 puts in 7 and is told 8 in the end: the view is that of a run on an unknown second input.
        coins = (2, 9, 5, 6, 8)
        view = made_view(TWO_PARTS, 10, PROGRAM, (7, 0), (8,), coins, (1,))
        run = run_quiet(TWO_PARTS, 10, PROGRAM, (7, 0), coins)
        before = view_quiet(run, PROGRAM, (7, 0), (1,))
        self.assertEqual(before[2][-1], (2, 1, 3, 1, 9))
        self.assertEqual(view, before[:2] + (before[2][:-1] + ((2, 1, 3, 1, 7),),))

    def test_with_the_plain_values_it_is_the_view_of_a_run(self):
        for structure, m, program, inputs, others, coins, group in self.many_drawn(116):
            people = [program[at][1] for at in puts_of(program)]
            known = [number if person in group else 0 for person, number in zip(people, inputs)]
            plain = plain_by_hand(program, inputs, m)
            values = [plain[at] for at, row in enumerate(program) if row[0] == "tell"]
            drawn = turned(structure, m, program, known, inputs, coins, group)
            view = view_quiet(run_quiet(structure, m, program, inputs, drawn), program, inputs, group)
            self.assertEqual(repr(made_view(structure, m, program, known, values, coins, group)), repr(view))
            self.assertEqual(repr(made_view(structure, m, program, tuple(known), tuple(values), tuple(coins), list(group))),
                             repr(view))

    def test_with_any_values(self):
        rng = random.Random(117)
        raised = 0
        for structure, m, program, inputs, _, coins, group in self.many_drawn(117):
            tells = [at for at, row in enumerate(program) if row[0] == "tell"]
            values = {at: rng.randrange(m) for at in tells}
            plain = plain_by_hand(program, inputs, m)
            before = view_by_hand(ByHand(structure, m, program, inputs, coins), program, inputs, group)
            expected = []
            for sender, receiver, row, about, number in before[2]:
                if row in values and about == first_around(structure, group):
                    number = (number + values[row] - plain[row]) % m
                    raised += 1
                expected.append((sender, receiver, row, about, number))
            found = made_view(structure, m, program, inputs, list(values.values()), coins, group)
            self.assertEqual(repr(found), repr(before[:2] + (tuple(expected),)))
            # Values for those who are no members do not count.
            for at in tells:
                if not set(program[at][2]) & set(group):
                    values[at] = rng.randrange(m)
            self.assertEqual(made_view(structure, m, program, inputs, tuple(values.values()), coins, group), found)
        self.assertGreater(raised, 50)

    def test_values_that_are_refused(self):
        coins = (2, 9, 5, 6, 8)
        program = PROGRAM + (("tell", 0, (3,)),)
        self.assertEqual(len(made_view(TWO_PARTS, 10, program, (7, 0), (8, 0), coins, (1,))), 3)
        wrong = [(), (8,), (8, 0, 0), (-1, 0), (8, -1), (10, 0), (8, 10), (10 ** 40, 0), ((8, 0),), [[8], [0]]]
        for other in no_integers():
            wrong += [(other, 0), (8, other), [other, 0], [8, other]]
        for values in wrong + strangers() + ["80", b"\x08\x00", {8: 0, 0: 0}, {8, 0}, range(2), iter((8, 0))]:
            for more in ((coins, (1,)), (None, None)):
                with self.assertRaises(BadInputs) as caught:
                    made_view(TWO_PARTS, 10, program, (7, 0), values, *more)
                self.assertIs(type(caught.exception), BadInputs)
        with self.assertRaises(BadCoins):
            made_view(TWO_PARTS, 10, program, (7, 0), (8, 0), coins[1:], None)
        with self.assertRaises(BadGroup):
            made_view(TWO_PARTS, 10, program, (7, 0), (8, 0), coins, (1, 2))

    def test_programs_that_tell_nothing(self):
        program = (("put", 1), ("put", 2))
        for values in ((), []):
            self.assertEqual(made_view(TWO_PARTS, 10, program, (4, 0), values, (1, 2), (1,)),
                             (((0, 4),), (1,), ((2, 1, 1, 2, 8),)))
        with self.assertRaises(BadInputs):
            made_view(TWO_PARTS, 10, program, (4, 0), (0,), (1, 2), (1,))


if __name__ == "__main__":
    unittest.main()
