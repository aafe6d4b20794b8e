"""What the tests of loud runs share: runs of the tests' own, structures, and lies of many kinds.

Nothing here uses the package: it is written out here once more, as plainly and as slowly as DOC.md tells it.
"""

import itertools

from tests.runs import QUIET, drawn_program, drawn_quiet, first_of, puts_of, view_by_hand

SOUND = [structure for structure in QUIET if first_of(structure, 3) is None] + [
    ("structure", 4, ((1,), (2,), (3,), (4,))),
    ("structure", 4, ((2, 3), (4,))),
    ("structure", 5, ((1,), (2,), (3, 4))),
    ("structure", 5, ((5,), (1, 2), (2, 3))),
    ("structure", 6, ((1, 2), (2, 3), (1, 3, 4))),
    ("structure", 7, ((1, 2), (3, 4), (5, 6))),
]
NOT_SOUND = [structure for structure in QUIET if first_of(structure, 3) is not None] + [
    ("structure", 4, ((1, 2), (3,), (4,))),
    ("structure", 4, ((1, 2), (1, 3), (4,))),
    ("structure", 5, ((1, 2), (3, 4), (5,))),
    ("structure", 6, ((1, 2), (3, 4), (5, 6))),
    ("structure", 7, ((1, 2, 3), (4, 5, 6), (3, 7))),
]


class LoudByHand:
    """A loud run in which each person knows only what they hold, were sent, put in, drew, or read on the board."""

    def __init__(self, structure, m, program, inputs, coins, liars=(), lies=()):
        _, self.n, self.groups = structure
        self.m = m
        self.k = len(self.groups)
        self.everyone = range(1, self.n + 1)
        self.hold = {part: [person for person in self.everyone if person not in self.groups[part - 1]]
                     for part in range(1, self.k + 1)}
        self.liars, self.lies = set(liars), list(lies)
        self.knows = {person: [] for person in self.everyone}
        self.given, self.coins = list(inputs), list(coins)
        self.told, self.letters, self.taken, self.board, self.inputs, self.dealt = [], [], [], [], [], []
        # How often something out of the ordinary came about, so that the tests see that they met it.
        self.said_parts = self.opened_products = 0
        for at, row in enumerate(program):
            getattr(self, "run_" + row[0])(at, *row[1:])

    def lied(self, person, number):
        if person in self.liars and self.lies:
            number += self.lies.pop(0)
        return number % self.m

    def send(self, sender, receiver, at, part, number):
        assert sender != receiver
        number = self.lied(sender, number)
        self.letters.append((sender, receiver, at, part, number))
        return number

    def say(self, speaker, at, part, number):
        number = self.lied(speaker, number)
        self.board.append((speaker, at, part, number))
        return number

    def deal(self, dealer, number, at):
        """{person: {part: number}} of what all hold of a loud dealing."""
        self.dealt.append((dealer, number))
        parts = {}
        for part in range(1, self.k):
            parts[part] = self.coins.pop(0)
            self.taken.append((dealer, parts[part]))
        parts[self.k] = (number - sum(parts.values())) % self.m
        got = {person: {} for person in self.everyone}
        for part in range(1, self.k + 1):
            for person in self.hold[part]:
                got[person][part] = parts[part]
                if person != dealer:
                    got[person][part] = self.send(dealer, person, at, part, parts[part])
        for part in range(1, self.k + 1):
            unlike = dict.fromkeys(self.hold[part], False)
            for g, h in itertools.permutations(self.hold[part], 2):
                if self.send(g, h, at, part, got[g][part]) != got[h][part]:
                    unlike[h] = True
            complaints = [self.say(holder, at, part, int(unlike[holder])) for holder in self.hold[part]]
            if complaints != [0] * len(complaints):
                self.said_parts += 1
                said = self.say(dealer, at, part, parts[part])
                for holder in self.hold[part]:
                    got[holder][part] = said
        self.honest_sum(got)
        return got

    def honest_sum(self, got):
        """What was dealt: the sum of the parts that the honest hold, who all hold the same."""
        total = 0
        for part, people in self.hold.items():
            held = {got[person][part] for person in people if person not in self.liars}
            assert len(held) == 1, "the honest holders of a part do not hold the same"
            total += held.pop()
        return total % self.m

    def read(self, said):
        """What is read of pairs (person, number), by the words of [19]."""
        numbers = [number for _, number in said]
        right = []
        for number in numbers:
            others = {person for person, other in said if other != number}
            if any(others <= set(group) for group in self.groups):
                right.append(number)
        return min(right or numbers)

    def lay_open(self, at, part, values):
        """values is {person: {part: number}}."""
        return self.read([(holder, self.say(holder, at, part, values[holder][part])) for holder in self.hold[part]])

    def everyone_knows(self, known):
        for person in self.everyone:
            self.knows[person].append(known[person])

    def nothing(self):
        return {person: {part: 0 for part, people in self.hold.items() if person in people}
                for person in self.everyone}

    def constant(self, number):
        known = self.nothing()
        for holder in self.hold[1]:
            known[holder][1] = number % self.m
        return known

    def run_put(self, at, person):
        got = self.deal(person, self.given.pop(0), at)
        self.inputs.append(self.honest_sum(got))
        self.everyone_knows(got)

    def run_number(self, at, number):
        self.everyone_knows(self.constant(number))

    def each_alone(self, reckon, *values):
        """What comes of values, each {person: {part: number}}, which everybody reckons part by part."""
        return {person: {part: reckon(*[value[person][part] for value in values]) % self.m
                         for part in values[0][person]} for person in self.everyone}

    def row(self, at):
        return {person: self.knows[person][at] for person in self.everyone}

    def run_add(self, at, i, j):
        self.everyone_knows(self.each_alone(lambda one, other: one + other, self.row(i), self.row(j)))

    def run_less(self, at, i, j):
        self.everyone_knows(self.each_alone(lambda one, other: one - other, self.row(i), self.row(j)))

    def run_scale(self, at, number, i):
        self.everyone_knows(self.each_alone(lambda one: one * number, self.row(i)))

    def run_times(self, at, i, j):
        total = self.nothing()
        for g in range(1, self.k + 1):
            for h in range(1, self.k + 1):
                product = self.product(at, i, j, g, h)
                total = self.each_alone(lambda one, other: one + other, total, product)
        self.everyone_knows(total)

    def product(self, at, i, j, g, h):
        people = [person for person in self.everyone if person in self.hold[g] and person in self.hold[h]]
        dealings = []
        for person in people:
            number = self.knows[person][i][g] * self.knows[person][j][h] % self.m
            dealings.append(self.deal(person, number, at))
        sums = []
        for dealing in dealings[1:]:
            difference = self.each_alone(lambda one, other: one - other, dealing, dealings[0])
            sums.append(sum([self.lay_open(at, part, difference) for part in range(1, self.k + 1)]) % self.m)
        if sums == [0] * len(sums):
            return dealings[0]
        self.opened_products += 1
        one = self.lay_open(at, g, self.row(i))
        other = self.lay_open(at, h, self.row(j))
        return self.constant(one * other)

    def run_tell(self, at, i, people):
        for person in people:
            known = dict(self.knows[person][i])
            for part in range(1, self.k + 1):
                if person not in self.hold[part]:
                    said = [(holder, self.send(holder, person, at, part, self.knows[holder][i][part]))
                            for holder in self.hold[part]]
                    known[part] = self.read(said)
            self.told.append((at, person, sum(known.values()) % self.m))
        self.everyone_knows(dict.fromkeys(self.everyone))


def loud_told(run):
    """What is written in a loud run, attribute by attribute."""
    return {name: getattr(run, name) for name in ("told", "letters", "taken", "board", "inputs", "dealt")}


def loud_view_by_hand(run, program, inputs, group):
    return view_by_hand(run, program, inputs, group) + (tuple(run.board),)


def loud_coins_taken(structure, program):
    """How many coins the loud run of a program takes: those of each dealing, counted one by one."""
    _, n, groups = structure
    everyone = set(range(1, n + 1))
    dealers = 0
    for one in groups:
        for other in groups:
            dealers += len(everyone - set(one) - set(other))
    many = {"put": 1, "times": dealers}
    return sum(many.get(row[0], 0) for row in program) * (len(groups) - 1)


def sent_by(run, people):
    """How many numbers some people sent, by letter and on the board."""
    return len([letter for letter in run.letters + run.board if letter[0] in people])


def many_lies(rng, m, many):
    """Lies of many kinds, for liars who send about so many numbers."""
    few = [1] + [0] * rng.randrange(1, 30)
    return [
        [rng.choice(few) for _ in range(many)],
        [rng.choice(few) * rng.choice((1, -1, m - 1)) for _ in range(many)],
        [rng.randrange(m) for _ in range(many)],
        [rng.randrange(-3, 4) for _ in range(many)],
        [rng.randrange(10 ** 19, 10 ** 20) for _ in range(many)],
        [-rng.randrange(10 ** 19, 10 ** 20) for _ in range(many)],
        [-rng.randrange(1, m + 1) for _ in range(many)],
        [rng.randrange(m) for _ in range(min(many, 1 + rng.randrange(9)))],
        [0] * max(0, many - 5) + [rng.randrange(1, m) for _ in range(5)],
        [rng.randrange(m) for _ in range(many // 2)],
        [0] * (many // 3) + [1] * (many // 3),
        [1] * many,
        [m] * many,
        [rng.randrange(m) for _ in range(2 * many + 10)],
    ]


def some_members(rng, group):
    return tuple(sorted(rng.sample(group, rng.randrange(len(group) + 1))))


def drawn_call(rng, structure, m, rows, times=1, more=0):
    """The arguments of a loud run up to the coins, with at most so many times rows."""
    program = list(drawn_program(rng, structure[1], rows))
    seen = 0
    for at, row in enumerate(program):
        seen += row[0] == "times"
        if row[0] == "times" and seen > times:
            program[at] = ("less",) + row[1:]
    program = tuple(program)
    inputs = [rng.randrange(m) for _ in puts_of(program)]
    coins = [rng.randrange(m) for _ in range(loud_coins_taken(structure, program) + more)]
    return structure, m, program, inputs, coins


def drawn_sound(rng, n=None, most=4):
    while True:
        structure = drawn_quiet(rng, n, most)
        if first_of(structure, 3) is None:
            return structure


def drawn_not_sound(rng, n=None, most=5):
    while True:
        structure = drawn_quiet(rng, n, most)
        if first_of(structure, 3) is not None:
            return structure
