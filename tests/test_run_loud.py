"""[17] to [21]: the loud run, row by row, with liars and without."""

import random
import unittest

from jointhands.loud import LoudRun, run_loud
from tests.helpers import within
from tests.loud_runs import (NOT_SOUND, SOUND, LoudByHand, drawn_call, drawn_not_sound, drawn_sound, loud_coins_taken,
                             loud_told, many_lies, sent_by, some_members)
from tests.runs import drawn_quiet, plain_by_hand, puts_of

# Part 1 is held by 2 and 3, part 2 by 1 and 3.
TWO_PARTS = ("structure", 3, ((1,), (2,)))
PUT_AND_TELL = (("put", 1), ("tell", 0, (1, 3)))


class ByTheWords(unittest.TestCase):
    """Runs that were written out by hand."""

    def check(self, run, expected):
        self.assertEqual(repr({name: getattr(run, name) for name in expected}), repr(expected))

    def test_put_and_tell_without_liars(self):
        self.check(run_loud(TWO_PARTS, 10, PUT_AND_TELL, (7,), (2,), (), ()), {
            "letters": [
                # Person 1 deals 7 as 2 and 5.
                (1, 2, 0, 1, 2), (1, 3, 0, 1, 2), (1, 3, 0, 2, 5),
                # The holders of part 1, then those of part 2 compare.
                (2, 3, 0, 1, 2), (3, 2, 0, 1, 2), (1, 3, 0, 2, 5), (3, 1, 0, 2, 5),
                # Person 1 does not hold part 1.
                (2, 1, 1, 1, 2), (3, 1, 1, 1, 2),
            ],
            "board": [(2, 0, 1, 0), (3, 0, 1, 0), (1, 0, 2, 0), (3, 0, 2, 0)],
            "told": [(1, 1, 7), (1, 3, 7)],
            "taken": [(1, 2)],
            "inputs": [7],
            "dealt": [(1, 7)],
        })

    def test_a_dealer_who_lies_to_one(self):
        # Person 1 sends 3 instead of 2 to person 2: both holders complain, and the part is said on the board.
        self.check(run_loud(TWO_PARTS, 10, PUT_AND_TELL, (7,), (2,), (1,), (1,)), {
            "letters": [
                (1, 2, 0, 1, 3), (1, 3, 0, 1, 2), (1, 3, 0, 2, 5),
                (2, 3, 0, 1, 3), (3, 2, 0, 1, 2), (1, 3, 0, 2, 5), (3, 1, 0, 2, 5),
                (2, 1, 1, 1, 2), (3, 1, 1, 1, 2),
            ],
            "board": [(2, 0, 1, 1), (3, 0, 1, 1), (1, 0, 1, 2), (1, 0, 2, 0), (3, 0, 2, 0)],
            "told": [(1, 1, 7), (1, 3, 7)],
            "taken": [(1, 2)],
            "inputs": [7],
            "dealt": [(1, 7)],
        })

    def test_a_dealer_who_lies_on_the_board(self):
        # As before, but on the board person 1 says 2 + 4: the input that counts is 6 + 5.
        run = run_loud(TWO_PARTS, 10, PUT_AND_TELL, (7,), (2,), (1,), (1, 0, 0, 4))
        self.check(run, {"board": [(2, 0, 1, 1), (3, 0, 1, 1), (1, 0, 1, 6), (1, 0, 2, 0), (3, 0, 2, 0)],
                         "told": [(1, 1, 1), (1, 3, 1)], "inputs": [1], "dealt": [(1, 7)]})

    def test_a_dealer_who_lies_to_all_alike(self):
        # Nobody can see that part 1 is 3 instead of 2: 8 is what was dealt, though 7 was to be dealt.
        run = run_loud(TWO_PARTS, 10, PUT_AND_TELL, [7], [2], [1], [1, 11])
        self.check(run, {"board": [(2, 0, 1, 0), (3, 0, 1, 0), (1, 0, 2, 0), (3, 0, 2, 0)],
                         "told": [(1, 1, 8), (1, 3, 8)], "inputs": [8], "dealt": [(1, 7)]})

    def test_a_holder_who_lies(self):
        # Person 1 sends 5 - 1 of part 2 to person 3, who complains; person 1 complains of nothing but says 3 more.
        program = (("put", 3), ("tell", 0, (2,)))
        run = run_loud(TWO_PARTS, 10, program, (7,), (2,), (1,), (-1, 3, -10 ** 20 - 2))
        self.check(run, {
            "letters": [
                (3, 2, 0, 1, 2), (3, 1, 0, 2, 5),
                (2, 3, 0, 1, 2), (3, 2, 0, 1, 2), (1, 3, 0, 2, 4), (3, 1, 0, 2, 5),
                # Person 2 does not hold part 2, and gets 3 and 5: person 1 alone may have lied, person 3 may not.
                (1, 2, 1, 2, 3), (3, 2, 1, 2, 5),
            ],
            "board": [(2, 0, 1, 0), (3, 0, 1, 0), (1, 0, 2, 3), (3, 0, 2, 1), (3, 0, 2, 5)],
            "told": [(1, 2, 7)],
            "inputs": [7],
        })

    def test_complaints_that_are_lies(self):
        # A complaint of 0 with the lie 1 makes the dealer speak, one of 1 with the lie 9 does not, by 10.
        program = (("put", 3), ("put", 1))
        run = run_loud(TWO_PARTS, 10, program, (7, 4), (2, 3), (1,), (0, 1))
        self.check(run, {"board": [(2, 0, 1, 0), (3, 0, 1, 0), (1, 0, 2, 1), (3, 0, 2, 0), (3, 0, 2, 5),
                                   (2, 1, 1, 0), (3, 1, 1, 0), (1, 1, 2, 0), (3, 1, 2, 0)], "inputs": [7, 4]})

    def test_a_liar_hides_a_complaint(self):
        # Persons 1 and 2 may lie, and person 1 deals: 2 gets another number of part 3 than 1, 4 and 5 have.
        structure = ("structure", 5, ((1, 2), (3,), (4,)))
        # Parts 1 to 3 are held by 3 4 5, 1 2 4 5, 1 2 3 5; letters 3 + 3 + 3, the second of part 3 goes to 3.
        lies = [0] * 6 + [1] + [0] * 2
        run = run_loud(structure, 10, (("put", 1), ("scale", 2, 0)), [5], [1, 1], (1, 2), lies)
        hand = LoudByHand(structure, 10, (("put", 1), ("scale", 2, 0)), [5], [1, 1], (1, 2), lies)
        self.assertEqual(loud_told(run), loud_told(hand))
        self.assertEqual(run.letters[6], (1, 2, 0, 3, 4))
        # Both complain, so that the part is said.
        self.assertIn((2, 0, 3, 1), run.board)
        self.assertIn((1, 0, 3, 3), run.board)

    def test_times_of_one_part(self):
        # Persons 2 and 3 hold the only part: both deal the product, and the difference is laid open.
        program = (("put", 1), ("times", 0, 0), ("tell", 1, (1, 2)))
        self.check(run_loud(("structure", 3, ((1,),)), 10, program, (4,), (), (), ()), {
            "letters": [
                (1, 2, 0, 1, 4), (1, 3, 0, 1, 4), (2, 3, 0, 1, 4), (3, 2, 0, 1, 4),
                (2, 3, 1, 1, 6), (2, 3, 1, 1, 6), (3, 2, 1, 1, 6),
                (3, 2, 1, 1, 6), (2, 3, 1, 1, 6), (3, 2, 1, 1, 6),
                (2, 1, 2, 1, 6), (3, 1, 2, 1, 6),
            ],
            "board": [(2, 0, 1, 0), (3, 0, 1, 0), (2, 1, 1, 0), (3, 1, 1, 0), (2, 1, 1, 0), (3, 1, 1, 0),
                      (2, 1, 1, 0), (3, 1, 1, 0)],
            "told": [(2, 1, 6), (2, 2, 6)],
            "taken": [],
            "inputs": [4],
            "dealt": [(1, 4), (2, 6), (3, 6)],
        })

    def test_a_product_that_is_laid_open(self):
        # Person 1 deals 5 * 5 + 1 for the product of part 2 with itself, by lying to both holders of part 1.
        program = (("put", 1), ("times", 0, 0), ("tell", 1, (2,)))
        coins = (2,) + (0,) * 6
        # In row 0 person 1 sends 3 parts, compares once and says one complaint; in row 1, 2 and 3 deal 2 * 2, and
        # 1 compares, complains twice; opens the difference; 3 deals 2 * 5 and 5 * 2, where 1 does as much.
        quiet_so_far = 5 + (2 + 2 + 1) + 2 + 2
        run = run_loud(TWO_PARTS, 10, program, [7], coins, (1,), [0] * quiet_so_far + [1, 1])
        self.assertEqual(run.dealt, [(1, 7), (2, 4), (3, 4), (3, 0), (3, 0), (1, 5), (3, 5)])
        self.assertEqual(run.told, [(2, 2, 9)])
        # The difference of what 3 and 1 dealt: part 1 is 0 - 1, part 2 is 5 - 5; then part 2 of row 0, twice.
        self.assertEqual(run.board[-8:], [(2, 1, 1, 9), (3, 1, 1, 9), (1, 1, 2, 0), (3, 1, 2, 0),
                                          (1, 1, 2, 5), (3, 1, 2, 5), (1, 1, 2, 5), (3, 1, 2, 5)])
        honest = run_loud(TWO_PARTS, 10, program, [7], coins, (1,), ())
        self.assertEqual(honest.board, run.board[:-8] + [(2, 1, 1, 0), (3, 1, 1, 0), (1, 1, 2, 0), (3, 1, 2, 0)])
        self.assertEqual(honest.told, [(2, 2, 9)])


class ByHandEverywhere(unittest.TestCase):
    def setUp(self):
        self.met = {"said": 0, "opened": 0, "other inputs": 0}

    def check(self, call, liars=(), lies=()):
        """Compares a run with that of the tests' own."""
        found = run_loud(*call, liars, lies)
        hand = LoudByHand(*call, liars, lies)
        self.assertIs(type(found), LoudRun)
        # Written out, since lists and tuples, numbers and True are told apart so.
        self.assertEqual(repr(loud_told(found)), repr(loud_told(hand)), (call, liars, lies))
        self.met["said"] += hand.said_parts
        self.met["opened"] += hand.opened_products
        self.met["other inputs"] += found.inputs != list(call[3])
        return found

    def check_plain(self, run, call, liars):
        """In sound structures, or without lies: the honest are told the plain value for the inputs that count."""
        _, m, program, inputs, _ = call
        plain = plain_by_hand(program, run.inputs, m)
        told = {(at, person): number for at, person, number in run.told}
        self.assertEqual([key for key in told], [(at, person) for at, row in enumerate(program)
                                                 if row[0] == "tell" for person in row[2]])
        for (at, person), number in told.items():
            if person not in liars:
                self.assertEqual(number, plain[at], (call, liars))
        for at, given, counts in zip(puts_of(program), inputs, run.inputs):
            if program[at][1] not in liars:
                self.assertEqual(counts, given)

    def check_honest(self, call, liars=(), lies=()):
        before = dict(self.met)
        run = self.check(call, liars, lies)
        self.check_plain(run, call, ())
        # No part is said on the board, no product is laid open.
        self.assertEqual(self.met, before)
        return run

    def test_without_liars(self):
        rng = random.Random(18)
        for structure in SOUND + NOT_SOUND:
            for m in (2, 3, 10, 1000000):
                for rows in (1, 4, 9):
                    call = drawn_call(rng, structure, m, rows)
                    run = self.check_honest(call)
                    self.assertEqual([coin for _, coin in run.taken], call[4])

    def test_lies_without_liars(self):
        rng = random.Random(19)
        for structure in SOUND + NOT_SOUND:
            call = drawn_call(rng, structure, 7, 6)
            for lies in ([1] * 50, (10 ** 20,), (-1, 0, 1)):
                self.check_honest(call, (), lies)

    def test_liars_who_do_not_lie(self):
        rng = random.Random(20)
        for structure in SOUND + NOT_SOUND:
            m = rng.choice((2, 3, 7, 100))
            call = drawn_call(rng, structure, m, 7)
            honest = loud_told(self.check_honest(call))
            for group in structure[2]:
                for lies in ((), [], [0], (0,) * 5, [0] * 100000, [m, -m, 3 * m, 0] * 9):
                    self.assertEqual(loud_told(self.check_honest(call, group, lies)), honest)

    def test_each_word_alone(self):
        rng = random.Random(21)
        for structure in SOUND + NOT_SOUND:
            n = structure[1]
            for row in (("number", -7), ("add", 0, 1), ("add", 1, 1), ("less", 0, 1), ("less", 1, 1), ("times", 0, 1),
                        ("times", 1, 1), ("scale", -4, 1), ("scale", 0, 0), ("tell", 0, (1,)), ("tell", 1, (n,)),
                        ("tell", 1, tuple(range(1, n + 1))), ("put", 1), ("put", n)):
                m = rng.choice((2, 5, 12))
                program = (("put", rng.randrange(1, n + 1)), ("put", rng.randrange(1, n + 1)), row)
                inputs = [rng.randrange(m) for _ in puts_of(program)]
                coins = [rng.randrange(m) for _ in range(loud_coins_taken(structure, program))]
                self.check_honest((structure, m, program, inputs, coins))

    def drawn_liars(self, rng, structures, rounds, rows=7, times=1):
        """(call, liars, lies) of many runs with liars."""
        for structure in structures:
            for _ in range(rounds):
                call = drawn_call(rng, structure, rng.choice((2, 2, 3, 7, 10, 1000000)), rng.randrange(2, rows), times)
                liars = rng.choice(structure[2])
                if rng.randrange(4) == 0:
                    liars = some_members(rng, liars)
                many = sent_by(LoudByHand(*call), liars)
                for lies in many_lies(rng, call[1], many):
                    yield call, liars, lies

    def test_liars_in_sound_structures(self):
        rng = random.Random(22)
        with within(900):
            for call, liars, lies in self.drawn_liars(rng, SOUND, 6):
                self.check_plain(self.check(call, liars, lies), call, liars)
        self.assertGreater(min(self.met.values()), 300)

    def test_liars_in_other_quiet_structures(self):
        rng = random.Random(23)
        deceived = 0
        with within(900):
            for call, liars, lies in self.drawn_liars(rng, NOT_SOUND, 8):
                run = self.check(call, liars, lies)
                plain = plain_by_hand(call[2], run.inputs, call[1])
                deceived += any(number != plain[at] for at, person, number in run.told if person not in liars)
                for at, given, counts in zip(puts_of(call[2]), call[3], run.inputs):
                    if call[2][at][1] not in liars:
                        self.assertEqual(counts, given)
        self.assertGreater(min(self.met.values()), 100)
        self.assertGreater(deceived, 50)

    def test_liars_in_drawn_structures(self):
        rng = random.Random(24)
        with within(900):
            for _ in range(60):
                sound, other = drawn_sound(rng), drawn_not_sound(rng)
                for call, liars, lies in self.drawn_liars(rng, [sound], 1, 9, 2):
                    self.check_plain(self.check(call, liars, lies), call, liars)
                for call, liars, lies in self.drawn_liars(rng, [other], 1):
                    self.check(call, liars, lies)
        self.assertGreater(min(self.met.values()), 300)

    def test_many_parts(self):
        rng = random.Random(25)
        with within(900):
            for _ in range(40):
                structure = drawn_quiet(rng, rng.randrange(5, 9), 12)
                if len(structure[2]) > 8:
                    call = drawn_call(rng, structure, rng.choice((2, 9, 1000)), 6, 0)
                    self.check_honest(call)
                    liars = rng.choice(structure[2])
                    for lies in many_lies(rng, call[1], sent_by(LoudByHand(*call), liars))[:4]:
                        self.check(call, liars, lies)

    def test_lies_are_added_to_what_liars_send_only(self):
        rng = random.Random(26)
        for structure in SOUND:
            call = drawn_call(rng, structure, 11, 6)
            for liars in structure[2]:
                lies = [rng.randrange(11) for _ in range(20)]
                run = self.check(call, liars, lies)
                honest = run_loud(*call, (), ())
                # Up to the first lie everything is as it should be.
                sent = [(at, "letter") for at, letter in enumerate(run.letters) if letter[0] in liars]
                if sent:
                    first = sent[0][0]
                    self.assertEqual([letter[:4] for letter in run.letters[:first]],
                                     [letter[:4] for letter in honest.letters[:first]])
                self.assertEqual(run.taken, honest.taken)

    def test_kinds_and_more_coins_than_are_taken(self):
        rng = random.Random(27)
        for structure in SOUND + NOT_SOUND:
            structure, m, program, inputs, coins = drawn_call(rng, structure, 9, 6, 1, 3)
            liars, lies = structure[2][0], [3, 0, -1, 8] * 5
            first = self.check((structure, m, program, inputs, coins), liars, lies)
            again = self.check((structure, m, program, tuple(inputs), tuple(coins[:-3])), list(liars), tuple(lies))
            self.assertEqual(repr(loud_told(first)), repr(loud_told(again)))
            self.assertEqual([coin for _, coin in first.taken], coins[:-3])

    def test_programs_without_inputs_and_without_telling(self):
        for structure in SOUND + NOT_SOUND:
            for liars in structure[2]:
                run = self.check((structure, 9, (("number", -1), ("scale", 5, 0), ("add", 0, 1)), (), ()), liars, [1, 2])
                self.assertEqual(loud_told(run), dict.fromkeys(loud_told(run), []))


if __name__ == "__main__":
    unittest.main()
