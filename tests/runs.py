"""What the tests of structures, programs and runs share: searches and runs of the tests' own.

Nothing here uses the package: it is written out here once more, as plainly and as slowly as DOC.md tells it.
"""

import itertools

WORDS = {"put": "p", "number": "c", "add": "ii", "less": "ii", "times": "ii", "scale": "ci", "tell": "iq"}

# Small quiet structures: with one part and several, groups of different sizes, in any order, a part that one
# person holds alone, people who stand in no group, and people who stand in all of them and so hold no part.
QUIET = [
    ("structure", 2, ((1,),)),
    ("structure", 2, ((2,),)),
    ("structure", 3, ((1, 3),)),
    ("structure", 3, ((2,),)),
    ("structure", 3, ((1,), (2,))),
    ("structure", 3, ((3,), (1,))),
    ("structure", 3, ((1,), (2,), (3,))),
    ("structure", 4, ((1, 2), (3,))),
    ("structure", 4, ((1, 4), (2, 4))),
    ("structure", 4, ((3,), (1, 2), (4, ))),
    ("structure", 5, ((1, 2), (1, 3), (1, 4))),
    ("structure", 5, ((2, 5), (3, 5), (1, 5), (4, 5))),
    ("structure", 5, ((1, 2, 3), (3, 4), (1, 4))),
    ("structure", 5, tuple(itertools.combinations(range(1, 6), 2))),
    ("structure", 6, ((2, 4, 6), (1,), (3, 4), (5, 6))),
    ("structure", 8, ((1, 2, 3, 4, 5, 6, 7),)),
    ("structure", 8, ((4, 5, 6), (1, 2), (8,), (3, 7), (1, 4, 7))),
]


def is_integer(value):
    return type(value) is int


def subsets(people):
    """All groups of some of these people, the empty one and all of them too, ascending."""
    people = sorted(people)
    return [group for size in range(len(people) + 1) for group in itertools.combinations(people, size)]


# Structures

def is_structure(value):
    """Whether this is a structure, by the words of [9]."""
    if type(value) is not tuple or len(value) != 3 or type(value[0]) is not str or value[0] != "structure":
        return False
    _, n, groups = value
    if not is_integer(n) or n not in range(2, 9) or type(groups) is not tuple or len(groups) not in range(1, 13):
        return False
    for group in groups:
        if type(group) is not tuple or not all(is_integer(person) for person in group):
            return False
        if list(group) != sorted(set(group)) or not set() < set(group) < set(range(1, n + 1)):
            return False
    return not any(set(one) <= set(other) for one, other in itertools.permutations(groups, 2))


def everybody(structure, numbers):
    """Whether the groups with these numbers, counted from 1, together are everybody."""
    _, n, groups = structure
    return {person for number in numbers for person in groups[number - 1]} == set(range(1, n + 1))


def first_of(structure, many):
    """The first tuple of so many numbers of groups, not falling, that together are everybody, or None."""
    numbers = range(1, len(structure[2]) + 1)
    found = [row for row in itertools.product(numbers, repeat=many) if list(row) == sorted(row)
             and everybody(structure, row)]
    return min(found, default=None)


def drawn_structure(rng, n=None, most=12):
    """A structure of any kind, quiet or not."""
    n = n or rng.randrange(2, 9)
    size = rng.randrange(1, n)
    groups = []
    for _ in range(rng.randrange(1, 3 * most)):
        group = tuple(sorted(rng.sample(range(1, n + 1), min(n - 1, max(1, size + rng.randrange(-1, 2))))))
        if len(groups) < most and not any(set(group) <= set(other) or set(other) <= set(group) for other in groups):
            groups.append(group)
    return ("structure", n, tuple(groups))


def drawn_quiet(rng, n=None, most=12):
    while True:
        structure = drawn_structure(rng, n, most)
        if first_of(structure, 2) is None:
            return structure


def within_greatest(structure):
    """All groups that may put their heads together, the empty one too, each once."""
    return sorted({group for greatest in structure[2] for group in subsets(greatest)})


# Programs

def is_row(program, at, n):
    """Whether this row is as told, the rows ahead of it being so."""
    row = program[at]
    if type(row) is not tuple or not row or type(row[0]) is not str or row[0] not in WORDS:
        return False
    told = WORDS[row[0]]
    if len(row) != 1 + len(told):
        return False
    for what, value in zip(told, row[1:]):
        if what == "q":
            if type(value) is not tuple or not value or not all(is_integer(person) for person in value):
                return False
            if list(value) != sorted(set(value)) or not set(value) <= set(range(1, n + 1)):
                return False
            continue
        if not is_integer(value):
            return False
        if what == "p" and not 1 <= value <= n:
            return False
        if what == "c" and len(str(abs(value))) > 60:
            return False
        if what == "i" and (not 0 <= value < at or program[value][0] == "tell"):
            return False
    return True


def wrong_row(program, n):
    """The number that BadProgram is to bear, None for a program that is good."""
    if type(program) is not tuple or len(program) == 0:
        return 0
    for at in range(min(400, len(program))):
        if not is_row(program, at, n):
            return at
    return 400 if len(program) > 400 else None


def plain_by_hand(program, inputs, m):
    """The values of all rows, reckoned with whole numbers and only at the end by m."""
    inputs = list(inputs)
    whole = []
    for row in program:
        if row[0] == "put":
            whole.append(inputs.pop(0))
        elif row[0] == "number":
            whole.append(row[1])
        elif row[0] == "scale":
            whole.append(row[1] * whole[row[2]])
        elif row[0] == "tell":
            whole.append(whole[row[1]])
        else:
            one, other = whole[row[1]], whole[row[2]]
            whole.append({"add": one + other, "less": one - other, "times": one * other}[row[0]])
    return [value % m for value in whole]


def puts_of(program):
    return [at for at, row in enumerate(program) if row[0] == "put"]


def drawn_program(rng, n, rows, times=3):
    """A good program for n people, with at most so many times rows that come one upon the other."""
    program = [("put", rng.randrange(1, n + 1))]
    depths = [0]
    while len(program) < rows:
        word = rng.choice(("put", "number", "add", "less", "times", "times", "scale", "tell"))
        earlier = [at for at, row in enumerate(program) if row[0] != "tell"]
        i, j = rng.choice(earlier), rng.choice(earlier)
        depth = max(depths[i], depths[j])
        if word == "times" and depth >= times:
            word = "less"
        number = rng.choice((0, 1, -1, 2, -7, 10 ** 60 - 1, 1 - 10 ** 60, rng.randrange(-10 ** 9, 10 ** 9)))
        people = tuple(sorted(rng.sample(range(1, n + 1), rng.randrange(1, n + 1))))
        program.append({"put": ("put", rng.randrange(1, n + 1)), "number": ("number", number),
                        "scale": ("scale", number, i), "tell": ("tell", i, people)}.get(word, (word, i, j)))
        depths.append(depth + 1 if word == "times" else 0 if word in ("put", "number") else depth)
    return tuple(program)


def written(program):
    """The text of a program."""
    lines = []
    for row in program:
        words = [row[0]]
        for item in row[1:]:
            words += map(str, item if type(item) is tuple else [item])
        lines.append(" ".join(words))
    return "\n".join(lines)


# The quiet run

class ByHand:
    """A quiet run in which each person knows only what they hold, were sent, put in or drew."""

    def __init__(self, structure, m, program, inputs, coins):
        _, self.n, groups = structure
        self.m = m
        self.k = len(groups)
        self.everyone = range(1, self.n + 1)
        self.hold = {part: [person for person in self.everyone if person not in groups[part - 1]]
                     for part in range(1, self.k + 1)}
        # What a person knows of a row: {part: number}.
        self.knows = {person: [] for person in self.everyone}
        self.inputs, self.coins = list(inputs), list(coins)
        self.parts, self.told, self.letters, self.taken, self.dealt = [], [], [], [], []
        for at, row in enumerate(program):
            getattr(self, "run_" + row[0])(at, *row[1:])
            self.note_parts(row[0])

    def deal(self, dealer, number, at):
        """{person: {part: number}} of what all hold of a dealing."""
        self.dealt.append((dealer, number))
        parts = []
        for _ in range(self.k - 1):
            coin = self.coins.pop(0)
            self.taken.append((dealer, coin))
            parts.append(coin)
        parts.append((number - sum(parts)) % self.m)
        got = {person: {} for person in self.everyone}
        for part in range(1, self.k + 1):
            for person in self.hold[part]:
                got[person][part] = parts[part - 1]
                if person != dealer:
                    self.letters.append((dealer, person, at, part, parts[part - 1]))
        return got

    def run_put(self, at, person):
        got = self.deal(person, self.inputs.pop(0), at)
        for holder in self.everyone:
            self.knows[holder].append(got[holder])

    def run_number(self, at, number):
        for holder in self.everyone:
            self.knows[holder].append({part: number % self.m if part == 1 else 0
                                       for part, people in self.hold.items() if holder in people})

    def each_alone(self, reckon, *rows):
        for holder in self.everyone:
            known = [self.knows[holder][row] for row in rows]
            self.knows[holder].append({part: reckon(*[values[part] for values in known]) % self.m
                                       for part in known[0]})

    def run_add(self, at, i, j):
        self.each_alone(lambda one, other: one + other, i, j)

    def run_less(self, at, i, j):
        self.each_alone(lambda one, other: one - other, i, j)

    def run_scale(self, at, number, i):
        self.each_alone(lambda one: number * one, i)

    def run_times(self, at, i, j):
        belonging = {}
        for g in range(1, self.k + 1):
            for h in range(1, self.k + 1):
                owner = [person for person in self.hold[g] if person in self.hold[h]][0]
                product = self.knows[owner][i][g] * self.knows[owner][j][h]
                belonging.setdefault(owner, []).append(product)
        sums = {person: {part: 0 for part, people in self.hold.items() if person in people}
                for person in self.everyone}
        for owner in sorted(belonging):
            got = self.deal(owner, sum(belonging[owner]) % self.m, at)
            for person in self.everyone:
                for part, number in got[person].items():
                    sums[person][part] = (sums[person][part] + number) % self.m
        for person in self.everyone:
            self.knows[person].append(sums[person])

    def run_tell(self, at, i, people):
        for person in people:
            known = dict(self.knows[person][i])
            for part in range(1, self.k + 1):
                if part not in known:
                    sender = self.hold[part][0]
                    known[part] = self.knows[sender][i][part]
                    self.letters.append((sender, person, at, part, known[part]))
            self.told.append((at, person, sum(known.values()) % self.m))
        for person in self.everyone:
            self.knows[person].append(None)

    def note_parts(self, word):
        if word == "tell":
            self.parts.append(None)
            return
        parts = []
        for part in range(1, self.k + 1):
            held = {self.knows[person][-1][part] for person in self.hold[part]}
            assert len(held) == 1, "the holders of a part do not hold the same"
            parts.append(held.pop())
        self.parts.append(tuple(parts))


def coins_taken(structure, program):
    """How many coins the quiet run of a program takes."""
    run = ByHand(structure, 2, program, [0] * len(puts_of(program)), itertools.repeat(0, 12 * 9 * 400))
    return len(run.taken)


def view_by_hand(run, program, inputs, group):
    """The view of a group, of a run with the attributes taken and letters."""
    seen = []
    for (at, row), number in zip([(at, row) for at, row in enumerate(program) if row[0] == "put"], inputs):
        if row[1] in group:
            seen.append((at, number))
    coins = [coin for person, coin in run.taken if person in group]
    letters = [letter for letter in run.letters if letter[1] in group]
    return (tuple(seen), tuple(coins), tuple(letters))


def run_told(run):
    """What is written in a run, attribute by attribute."""
    return {name: getattr(run, name) for name in ("parts", "told", "letters", "taken", "dealt")}
