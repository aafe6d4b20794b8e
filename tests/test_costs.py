"""[24]: the numbers of letters, entries and coins of runs."""

import itertools
import random
import unittest

from jointhands.errors import BadProgram, BadStructure
from jointhands.learning import loud_costs, quiet_costs
from jointhands.loud import run_loud
from jointhands.quiet import run_quiet
from tests.helpers import strangers, within
from tests.loud_runs import NOT_SOUND, SOUND, LoudByHand, drawn_call, loud_coins_taken
from tests.runs import QUIET, ByHand, coins_taken, drawn_program, drawn_quiet, puts_of

TWO_PARTS = ("structure", 3, ((1,), (2,)))


class Costs(unittest.TestCase):
    def check_quiet(self, rng, structure, program):
        m = rng.choice((2, 5, 1000000))
        inputs = [rng.randrange(m) for _ in puts_of(program)]
        coins = [rng.randrange(m) for _ in range(coins_taken(structure, program))]
        found = quiet_costs(structure, program)
        for run in (ByHand(structure, m, program, inputs, coins), run_quiet(structure, m, program, inputs, coins)):
            self.assertEqual(repr(found), repr((len(run.letters), len(run.taken))))

    def check_loud(self, call):
        found = loud_costs(call[0], call[2])
        for run in (LoudByHand(*call), run_loud(*call, (), ())):
            self.assertEqual(repr(found), repr((len(run.letters), len(run.board), len(run.taken))))

    def test_by_hand(self):
        # A dealing by 1 or 2 makes 3 or 3 letters, one by 3 two; each of both parts is compared by two letters.
        self.assertEqual(quiet_costs(TWO_PARTS, (("put", 1), ("put", 3))), (5, 2))
        self.assertEqual(loud_costs(TWO_PARTS, (("put", 1), ("put", 3))), (13, 8, 2))
        # Persons 1, 2 and 3 have products; loudly 2 3, 3, 3, 1 3 deal, and two differences are laid open.
        times = (("put", 3), ("times", 0, 0))
        self.assertEqual(quiet_costs(TWO_PARTS, times), (2 + 3 + 3 + 2, 4))
        self.assertEqual(loud_costs(TWO_PARTS, times), (6 + 2 * 7 + 4 * 6, 4 + 6 * 4 + 2 * 4, 7))
        # Person 1 does not hold part 1, person 2 not part 2, person 3 holds both.
        tell = (("number", 5), ("tell", 0, (1, 2, 3)))
        self.assertEqual(quiet_costs(TWO_PARTS, tell), (2, 0))
        self.assertEqual(loud_costs(TWO_PARTS, tell), (4, 0, 0))
        self.assertEqual(loud_costs(TWO_PARTS, (("number", 5), ("add", 0, 0), ("less", 0, 1), ("scale", 2, 2))), (0, 0, 0))

    def test_quiet_runs(self):
        rng = random.Random(24)
        for structure in QUIET + SOUND + NOT_SOUND + [drawn_quiet(rng) for _ in range(100)]:
            for rows in (1, 5, 12):
                self.check_quiet(rng, structure, drawn_program(rng, structure[1], rows))

    def test_loud_runs(self):
        rng = random.Random(25)
        with within(900):
            for structure in SOUND + NOT_SOUND + [drawn_quiet(rng, None, 4) for _ in range(100)]:
                for rows in (1, 5, 9):
                    self.check_loud(drawn_call(rng, structure, rng.choice((2, 7)), rows))

    def test_one_row_more(self):
        # All costs are the sums of those of the rows.
        for structure in SOUND + NOT_SOUND:
            program = (("put", 1),)
            for row in (("put", 2), ("times", 0, 1), ("times", 2, 2), ("tell", 0, (1, 2)), ("tell", 3, (2,))):
                for costs in (quiet_costs, loud_costs):
                    before, after = costs(structure, program), costs(structure, program + (row,))
                    twice = costs(structure, program + (row, row))
                    self.assertEqual([2 * b - a for a, b in zip(before, after)], list(twice))
                program += (row,)

    def test_programs_whose_loud_runs_would_be_far_too_long(self):
        groups = tuple(itertools.combinations(range(1, 9), 2))[::2][:12]
        structure = ("structure", 8, groups)
        program = (("put", 1),) + tuple(("times", at, at) for at in range(399))
        with within(10):
            letters, entries, coins = loud_costs(structure, program)
            quiet = quiet_costs(structure, program)
        self.assertEqual(coins, loud_coins_taken(structure, program))
        self.assertEqual(quiet[1], coins_taken(structure, program[:2]) * 399 - 398 * 11)
        self.assertGreater(letters, 10 ** 8)
        self.assertGreater(entries, 10 ** 7)
        # A row is counted by the same run as the first one of its kind.
        one, two = loud_costs(structure, program[:2]), loud_costs(structure, program[:3])
        self.assertEqual((letters, entries, coins), tuple([a + 398 * (b - a) for a, b in zip(one, two)]))

    def test_what_is_refused(self):
        program = (("put", 1), ("tell", 0, (3,)))
        for costs in (quiet_costs, loud_costs):
            for structure in strangers() + [("structure", 3, ((1, 2), (2, 3))), ("structure", 2, ((1,), (2,)))]:
                for given in (program, None, ()):
                    with self.assertRaises(BadStructure):
                        costs(structure, given)
            for other, row in [(stranger, 0) for stranger in strangers()] + [
                    (program + (("put", 4),), 2), (program + (("add", 0, 1),), 2), ((("put", 1),) * 401, 400)]:
                with self.assertRaises(BadProgram) as caught:
                    costs(TWO_PARTS, other)
                self.assertEqual(caught.exception.row, row)
            # A structure that is quiet is enough.
            self.assertEqual(costs(("structure", 3, ((1,), (2,), (3,))), program)[-1], 2)


if __name__ == "__main__":
    unittest.main()
