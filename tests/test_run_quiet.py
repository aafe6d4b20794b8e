"""[13] and [14]: dealing and the quiet run."""

import itertools
import random
import unittest

from jointhands.errors import BadCoins, BadInputs, BadModulus, BadProgram, BadStructure
from jointhands.quiet import QuietRun, run_quiet
from tests.helpers import no_integers, strangers, within
from tests.runs import QUIET, ByHand, coins_taken, drawn_program, drawn_quiet, plain_by_hand, puts_of, run_told

TWO_PARTS = ("structure", 3, ((1,), (2,)))
PROGRAM = (("put", 1), ("put", 3), ("times", 0, 1), ("number", -3), ("less", 2, 3), ("tell", 4, (1, 2)))
COINS = (2, 9, 5, 6, 8)
NOT_QUIET = [("structure", 2, ((1,), (2,))), ("structure", 3, ((1, 2), (2, 3))),
             ("structure", 4, ((1, 2), (1, 3), (3, 4)))]


class ByTheWords(unittest.TestCase):
    """A run that was written out by hand: part 1 is held by 2 and 3, part 2 by 1 and 3."""

    def setUp(self):
        self.run = run_quiet(TWO_PARTS, 10, PROGRAM, (7, 4), COINS)

    def test_parts(self):
        self.assertEqual(self.run.parts, [(2, 5), (9, 5), (9, 9), (7, 0), (2, 9), None])

    def test_letters(self):
        self.assertEqual(self.run.letters, [
            # Person 1 deals 7.
            (1, 2, 0, 1, 2), (1, 3, 0, 1, 2), (1, 3, 0, 2, 5),
            # Person 3 deals 4.
            (3, 2, 1, 1, 9), (3, 1, 1, 2, 5),
            # Person 1 deals 5 * 5, person 2 deals 2 * 9, person 3 deals 2 * 5 + 5 * 9.
            (1, 2, 2, 1, 5), (1, 3, 2, 1, 5), (1, 3, 2, 2, 0),
            (2, 3, 2, 1, 6), (2, 1, 2, 2, 2), (2, 3, 2, 2, 2),
            (3, 2, 2, 1, 8), (3, 1, 2, 2, 7),
            # Person 1 does not hold part 1, person 2 not part 2.
            (2, 1, 5, 1, 2), (1, 2, 5, 2, 9),
        ])

    def test_coins_and_dealings(self):
        self.assertEqual(self.run.taken, [(1, 2), (3, 9), (1, 5), (2, 6), (3, 8)])
        self.assertEqual(self.run.dealt, [(1, 7), (3, 4), (1, 5), (2, 8), (3, 5)])

    def test_what_is_told(self):
        self.assertEqual(self.run.told, [(5, 1, 1), (5, 2, 1)])

    def test_add_and_scale(self):
        program = PROGRAM[:2] + (("add", 0, 1), ("scale", -3, 2), ("scale", 10 ** 59 + 7, 0), ("tell", 3, (3,)))
        run = run_quiet(TWO_PARTS, 10, program, (7, 4), COINS)
        self.assertEqual(run.parts, [(2, 5), (9, 5), (1, 0), (7, 0), (4, 5), None])
        self.assertEqual(run.told, [(5, 3, 7)])
        self.assertEqual(len(run.letters), 5)

    def test_one_part(self):
        # All but person 1 hold the only part; no coins are taken.
        program = (("put", 1), ("put", 3), ("times", 0, 1), ("tell", 2, (1, 2)))
        run = run_quiet(("structure", 3, ((1,),)), 5, program, [3, 4], [])
        self.assertEqual(run_told(run), {
            "parts": [(3,), (4,), (2,), None],
            "told": [(3, 1, 2), (3, 2, 2)],
            "letters": [(1, 2, 0, 1, 3), (1, 3, 0, 1, 3), (3, 2, 1, 1, 4), (2, 3, 2, 1, 2), (2, 1, 3, 1, 2)],
            "taken": [],
            "dealt": [(1, 3), (3, 4), (2, 2)],
        })

    def test_a_part_that_one_person_holds_alone(self):
        program = (("put", 2), ("times", 0, 0), ("tell", 1, (1, 2)), ("tell", 0, (2,)))
        run = run_quiet(("structure", 2, ((1,),)), 7, program, [3], [])
        self.assertEqual(run_told(run), {"parts": [(3,), (2,), None, None], "told": [(2, 1, 2), (2, 2, 2), (3, 2, 3)],
                                         "letters": [(2, 1, 2, 1, 2)], "taken": [], "dealt": [(2, 3), (2, 2)]})

    def test_somebody_who_holds_no_part(self):
        # Parts 1, 2, 3 are held by 3 4 5, 2 4 5, 2 3 5: person 1 puts in and is told, but holds nothing.
        structure = ("structure", 5, ((1, 2), (1, 3), (1, 4)))
        run = run_quiet(structure, 10, (("put", 1), ("tell", 0, (1, 5))), [4], [7, 8])
        self.assertEqual(run_told(run), {
            "parts": [(7, 8, 9), None],
            "told": [(1, 1, 4), (1, 5, 4)],
            "letters": [(1, 3, 0, 1, 7), (1, 4, 0, 1, 7), (1, 5, 0, 1, 7), (1, 2, 0, 2, 8), (1, 4, 0, 2, 8),
                        (1, 5, 0, 2, 8), (1, 2, 0, 3, 9), (1, 3, 0, 3, 9), (1, 5, 0, 3, 9),
                        (3, 1, 1, 1, 7), (2, 1, 1, 2, 8), (2, 1, 1, 3, 9)],
            "taken": [(1, 7), (1, 8)],
            "dealt": [(1, 4)],
        })

    def test_who_multiplies(self):
        # The holders are 3 4 5, 2 4 5, 2 3 5: products of a part with itself go to 3, 2, 2, others to 4, 3, 2.
        structure = ("structure", 5, ((1, 2), (1, 3), (1, 4)))
        run = run_quiet(structure, 1000, (("put", 5), ("put", 5), ("times", 0, 1)), [10, 10], [1, 2, 3, 3] + [0] * 6)
        self.assertEqual(run.parts[:2], [(1, 2, 7), (3, 3, 4)])
        self.assertEqual(run.dealt[2:], [(2, 2 * 3 + 7 * 4 + 2 * 4 + 7 * 3), (3, 1 * 3 + 1 * 4 + 7 * 3),
                                         (4, 1 * 3 + 2 * 3)])
        self.assertEqual(run.parts[2], (0, 0, 0 + 63 + 28 + 9))
        self.assertEqual([person for person, _ in run.taken], [5] * 4 + [2, 2, 3, 3, 4, 4])


class ByHandEverywhere(unittest.TestCase):
    def check(self, structure, m, program, inputs, coins):
        found = run_quiet(structure, m, program, inputs, coins)
        expected = ByHand(structure, m, program, inputs, coins)
        self.assertIs(type(found), QuietRun)
        # Written out, since lists and tuples, numbers and True are told apart so.
        self.assertEqual(repr(run_told(found)), repr(run_told(expected)), (structure, m, program, inputs, coins))
        plain = plain_by_hand(program, inputs, m)
        for row, parts, value in zip(program, found.parts, plain):
            if row[0] == "tell":
                self.assertIsNone(parts)
            else:
                self.assertEqual(len(parts), len(structure[2]))
                self.assertEqual(sum(parts) % m, value)
                self.assertTrue(all(part in range(m) for part in parts))
        told = [(at, person, plain[at]) for at, row in enumerate(program) if row[0] == "tell" for person in row[2]]
        self.assertEqual(found.told, told)
        for sender, receiver, at, part, number in found.letters:
            self.assertNotEqual(sender, receiver)
            self.assertIn(number, range(m))
            if program[at][0] != "tell":
                self.assertNotIn(receiver, structure[2][part - 1])
            else:
                self.assertIn(receiver, structure[2][part - 1])
        return found

    def drawn(self, rng, structure, m, rows, more=0):
        program = drawn_program(rng, structure[1], rows)
        inputs = [rng.randrange(m) for _ in puts_of(program)]
        coins = [rng.randrange(m) for _ in range(coins_taken(structure, program) + more)]
        return structure, m, program, inputs, coins

    def test_drawn_programs(self):
        rng = random.Random(14)
        for structure in QUIET:
            for m in (2, 3, 4, 7, 10, 1000000):
                for rows in (1, 4, 8, 15):
                    self.check(*self.drawn(rng, structure, m, rows))

    def test_drawn_structures(self):
        rng = random.Random(15)
        sizes = set()
        for _ in range(250):
            structure = drawn_quiet(rng)
            sizes.add((structure[1], len(structure[2])))
            self.check(*self.drawn(rng, structure, rng.choice((2, 3, 5, 6, 97, 999999)), rng.randrange(1, 20)))
        self.assertEqual({n for n, _ in sizes}, set(range(2, 9)))
        self.assertEqual({k for _, k in sizes}, set(range(1, 13)))

    def test_each_word_alone(self):
        rng = random.Random(16)
        for structure in QUIET:
            n = structure[1]
            for row in (("number", -7), ("add", 0, 1), ("add", 1, 1), ("less", 0, 1), ("less", 1, 1), ("times", 0, 1),
                        ("times", 1, 1), ("scale", -4, 1), ("scale", 0, 0), ("tell", 0, (1,)), ("tell", 1, (n,)),
                        ("tell", 1, tuple(range(1, n + 1))), ("put", 1), ("put", n)):
                for m in (2, 5, 12):
                    program = (("put", rng.randrange(1, n + 1)), ("put", rng.randrange(1, n + 1)), row)
                    inputs = [rng.randrange(m) for _ in puts_of(program)]
                    coins = [rng.randrange(m) for _ in range(coins_taken(structure, program))]
                    self.check(structure, m, program, inputs, coins)

    def test_all_coins_of_a_small_run(self):
        program = (("put", 1), ("times", 0, 0), ("tell", 1, (1, 2, 3)))
        for m in (2, 3):
            for structure in (TWO_PARTS, ("structure", 3, ((3,), (1,)))):
                for inputs in range(m):
                    for coins in itertools.product(range(m), repeat=4):
                        self.check(structure, m, program, (inputs,), coins)

    def test_programs_without_inputs_and_without_telling(self):
        for structure in QUIET:
            run = self.check(structure, 9, (("number", -1), ("scale", 5, 0), ("add", 0, 1)), (), ())
            self.assertEqual((run.told, run.letters, run.taken, run.dealt), ([], [], [], []))

    def test_inputs_and_coins_as_lists_and_tuples(self):
        rng = random.Random(17)
        for structure in QUIET:
            structure, m, program, inputs, coins = self.drawn(rng, structure, 11, 10)
            runs = [self.check(structure, m, program, given, drawn)
                    for given in (list(inputs), tuple(inputs)) for drawn in (list(coins), tuple(coins))]
            self.assertEqual(len({repr(run_told(run)) for run in runs}), 1)

    def test_more_coins_than_are_taken(self):
        rng = random.Random(18)
        for structure in QUIET:
            structure, m, program, inputs, coins = self.drawn(rng, structure, 11, 10, 3)
            run = self.check(structure, m, program, inputs, coins)
            self.assertEqual([coin for _, coin in run.taken], coins[:-3])
            self.assertEqual(run_told(run), run_told(run_quiet(structure, m, program, inputs, coins[:-3])))
            if len(coins) > 3:
                with self.assertRaises(BadCoins):
                    run_quiet(structure, m, program, inputs, coins[:-4])

    def test_the_greatest_ones(self):
        rng = random.Random(19)
        groups = tuple(sorted(rng.sample(list(itertools.combinations(range(1, 9), 3)), 12)))
        self.assertEqual(len(groups), 12)
        program = (("put", 8),) + tuple(("times", at, at) for at in range(398)) + (("tell", 398, tuple(range(1, 9))),)
        coins = [rng.randrange(1000000) for _ in range(11 * (1 + 8 * 398))]
        with within(60):
            run = run_quiet(("structure", 8, groups), 1000000, program, [3], coins)
        self.assertEqual(run.told, [(399, person, pow(3, 2 ** 398, 1000000)) for person in range(1, 9)])


class Looks(unittest.TestCase):
    def refused(self, error, structure=TWO_PARTS, m=10, program=PROGRAM, inputs=(7, 4), coins=COINS):
        with self.assertRaises(error) as caught:
            run_quiet(structure, m, program, inputs, coins)
        self.assertIs(type(caught.exception), error)
        return caught.exception

    def test_structures(self):
        for structure in strangers() + NOT_QUIET + [("structure", 3, ()), ("structure", 3, ((1,), (1, 2))),
                                                    ["structure", 3, ((1,), (2,))], ("structure", 3, ((1, 2, 3),)),
                                                    ("structure", 1, ((1,),)), ("structure", True, ((1,),))]:
            self.refused(BadStructure, structure=structure)
        run_quiet(("structure", 3, ((1,), (2,), (3,))), 10, (("number", 1),), (), ())

    def test_moduli(self):
        for m in (1, 0, -1, -10, 1000001, 10 ** 5000):
            self.refused(BadModulus, m=m)
        for m in no_integers() + [other for other in strangers() if type(other) is not int] + [10.0]:
            self.refused(BadModulus, m=m)
        for m in (2, 1000000):
            self.assertEqual(run_quiet(TWO_PARTS, m, PROGRAM, (1, 1), (1, 0, 1, 0, 1)).told, [(5, 1, 4 % m), (5, 2, 4 % m)])

    def test_programs(self):
        for other in strangers():
            self.assertEqual(self.refused(BadProgram, program=other).row, 0)
            self.assertEqual(self.refused(BadProgram, program=PROGRAM + (other,)).row, 6)
        self.assertEqual(self.refused(BadProgram, program=(("put", 1),) * 401).row, 400)
        self.assertEqual(self.refused(BadProgram, program=list(PROGRAM)).row, 0)

    def test_programs_are_for_the_people_of_the_structure(self):
        for n in range(2, 9):
            structure = ("structure", n, ((1,),))
            self.assertEqual(run_quiet(structure, 5, (("put", n), ("tell", 0, (n,))), [2], []).told, [(1, n, 2)])
            for program, row in (((("put", n + 1),), 0), ((("put", n), ("tell", 0, (n, n + 1))), 1)):
                self.assertEqual(self.refused(BadProgram, structure, 5, program, (2,), ()).row, row)

    def test_inputs(self):
        for inputs in ((), (7,), (7, 4, 0), (-1, 4), (7, -1), (10, 4), (7, 10), (7, 10 ** 5000)):
            self.refused(BadInputs, inputs=inputs)
            self.refused(BadInputs, inputs=list(inputs))
        for other in no_integers():
            self.refused(BadInputs, inputs=(other, 4))
            self.refused(BadInputs, inputs=[7, other])
        for other in strangers() + [{7: 0, 4: 0}, {7, 4}, range(7, 9), iter([7, 4]), "74", b"\x07\x04"]:
            self.refused(BadInputs, inputs=other)

    def test_coins(self):
        for coins in (COINS[:-1], (), COINS[:1], (10,) + COINS[1:], COINS[:-1] + (10,), (-1,) + COINS[1:], COINS[:-1] + (-1,),
                      COINS[:2] + (10 ** 5000,) + COINS[3:], COINS + (10,), COINS + (-1,), COINS + (0, 0, 11)):
            self.refused(BadCoins, coins=coins)
            self.refused(BadCoins, coins=list(coins))
        for other in no_integers():
            for coins in ((other,) + COINS[1:], COINS[:-1] + (other,), COINS + (other,), [*COINS, other]):
                self.refused(BadCoins, coins=coins)
        for other in strangers() + [dict.fromkeys(COINS), set(COINS), range(5), iter(COINS), (c for c in COINS), "29568",
                                    bytes(COINS), bytearray(COINS)]:
            self.refused(BadCoins, coins=other)

    def test_coins_where_none_are_taken(self):
        structure, program = ("structure", 2, ((1,),)), (("put", 1),)
        for coins in ((), [], (1, 2), [0] * 50):
            self.assertEqual(run_quiet(structure, 5, program, [3], coins).taken, [])
        for coins in ((5,), [-1], [True], None, "", range(0), {}):
            self.refused(BadCoins, structure, 5, program, [3], coins)

    def test_as_many_coins_as_the_run_takes(self):
        rng = random.Random(141)
        for _ in range(60):
            structure = drawn_quiet(rng)
            program = drawn_program(rng, structure[1], rng.randrange(1, 12))
            inputs = [0] * len(puts_of(program))
            many = coins_taken(structure, program)
            self.assertEqual(len(run_quiet(structure, 2, program, inputs, [0] * many).taken), many)
            if many:
                self.refused(BadCoins, structure, 2, program, inputs, [0] * (many - 1))

    def test_the_order_of_the_looks(self):
        wrong = [(BadStructure, NOT_QUIET[1], TWO_PARTS), (BadModulus, 1, 10), (BadProgram, PROGRAM + (None,), PROGRAM),
                 (BadInputs, (7,), (7, 4)), (BadCoins, (1,), COINS)]
        for pattern in range(1, 32):
            told = [errors[1] if pattern >> at & 1 else errors[2] for at, errors in enumerate(wrong)]
            first = min(at for at in range(5) if pattern >> at & 1)
            self.refused(wrong[first][0], *told)
        everything = None
        self.refused(BadStructure, everything, everything, everything, everything, everything)
        self.refused(BadModulus, TWO_PARTS, everything, everything, everything, everything)
        self.refused(BadProgram, TWO_PARTS, 10, everything, everything, everything)
        self.refused(BadInputs, TWO_PARTS, 10, PROGRAM, everything, everything)


if __name__ == "__main__":
    unittest.main()
