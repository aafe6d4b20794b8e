"""The loud run of a program, among people who may lie, what a group sees of it, and attacks upon it."""

from jointhands.dealings import Dealings
from jointhands.looks import check_coins, check_group, check_lies
from jointhands.programs import check_given
from jointhands.rows import put_rows
from jointhands.sharing import Sharing
from jointhands.speaking import Speaking, read_from
from jointhands.structures import check_quiet, three_groups
from jointhands.views import Run


class LoudRun(Run):
    """What was done in a loud run.

    told has the triples (row, person, number) of what was told; letters the letters; taken the pairs
    (person, coin); board the entries of the board; inputs the inputs that count; dealt the pairs
    (person, number) of what was to be dealt; all of them lists, in order.
    """

    def __init__(self, told, letters, dealings, board, inputs):
        super().__init__(told, letters, dealings)
        self.board = board
        self.inputs = inputs
        self._kept_board = tuple(board)

    def view(self, program, inputs, group):
        """What a group sees of the run: its inputs and coins, the letters to it, and all entries."""
        seen = super().view(program, inputs, group)
        return (*seen, self._kept_board)


class LoudCourse:
    """A loud run as it goes on, row by row.

    held has, for each row and each part, what the holders have as their values of it, by person.
    """

    def __init__(self, sharing, dealings, liars, lies):
        self.sharing = sharing
        self.dealings = dealings
        self.m = dealings.m
        self.speaking = Speaking(self.m, liars, lies)
        self.held = []
        self.told = []
        self.inputs = []

    def deal(self, dealer, number):
        """Deals a number loudly; the holders' values of its parts."""
        parts = self.dealings.parts_of(dealer, number)
        received = []
        for at, part in enumerate(parts):
            received.append({holder: part if holder == dealer else self.speaking.write(dealer, holder, at, part)
                             for holder in self.sharing.held_by[at]})
        return [self.compare(dealer, at, part, received[at]) for at, part in enumerate(parts)]

    def compare(self, dealer, at, part, values):
        """The values of a part when its holders have compared what they received from the dealer."""
        people = self.sharing.held_by[at]
        unlike = {person: 0 for person in people}
        for sender in people:
            for receiver in [person for person in people if person != sender]:
                number = self.speaking.write(sender, receiver, at, values[sender])
                if number != values[receiver]:
                    unlike[receiver] = 1
        complaints = [self.speaking.say(person, at, unlike[person]) for person in people]
        if sum(complaints) == 0:
            return values
        said = self.speaking.say(dealer, at, part)
        return {person: said for person in people}

    def lay_open(self, at, values):
        """What is read where the holders of a part say their values of it on the board."""
        said = {person: self.speaking.say(person, at, value) for person, value in values.items()}
        return read_from(said, self.sharing.groups)

    def put(self, person, number):
        """The values of a put row; the input that counts is the sum of those of the honest."""
        values = self.deal(person, number)
        liars = self.speaking.liars
        honest = [[value for holder, value in part.items() if holder not in liars][0] for part in values]
        self.inputs.append(sum(honest) % self.m)
        return values

    def constant(self, number):
        """The values where part 1 is a number and all others are 0."""
        return [{person: number if at == 0 else 0 for person in people}
                for at, people in enumerate(self.sharing.held_by)]

    def multiply(self, row):
        """The values of a times row."""
        one, other = self.held[row[1]], self.held[row[2]]
        total = self.constant(0)
        for (g, h), people in self.sharing.both.items():
            dealings = [self.deal(person, one[g][person] * other[h][person] % self.m) for person in people]
            if self.are_alike(dealings):
                total = added(total, dealings[0], 1, self.m)
                continue
            first = self.lay_open(g, one[g])
            second = self.lay_open(h, other[h])
            total = added(total, self.constant(first * second % self.m), 1, self.m)
        return total

    def are_alike(self, dealings):
        """True if by what is read all dealings are of the number of the first one.

        All differences are laid open, also behind one that is not 0.
        """
        alike = True
        for values in dealings[1:]:
            differences = added(values, dealings[0], -1, self.m)
            read = [self.lay_open(at, difference) for at, difference in enumerate(differences)]
            if sum(read) % self.m != 0:
                alike = False
        return alike

    def tell(self, row):
        """Tells the number of a row to people: all holders send each the parts that they do not hold."""
        for person in row[2]:
            total = 0
            for at, values in enumerate(self.held[row[1]]):
                if person in values:
                    total += values[person]
                    continue
                said = {holder: self.speaking.write(holder, person, at, value) for holder, value in values.items()}
                total += read_from(said, self.sharing.groups)
            self.told.append((self.speaking.row, person, total % self.m))

    def run_row(self, row, given):
        """Runs the next row; given is the input, if it is a put row."""
        word = row[0]
        values = None
        if word == "put":
            values = self.put(row[1], given)
        elif word == "number":
            values = self.constant(row[1] % self.m)
        elif word == "times":
            values = self.multiply(row)
        elif word == "tell":
            self.tell(row)
        elif word == "scale":
            values = [{person: row[1] * value % self.m for person, value in part.items()} for part in self.held[row[2]]]
        else:
            values = added(self.held[row[1]], self.held[row[2]], 1 if word == "add" else -1, self.m)
        self.held.append(values)

    def run(self, program, inputs):
        """Runs all rows; the run that comes of it."""
        given = dict(zip(put_rows(program), inputs))
        for at, row in enumerate(program):
            self.speaking.begin_row(at)
            self.run_row(row, given.get(at))
        return LoudRun(self.told, self.speaking.letters, self.dealings, self.speaking.board, self.inputs)


def added(one, other, sign, m):
    """The values of two rows, those of the other one with a sign, added up by m, holder by holder."""
    return [{person: (value + sign * second[person]) % m for person, value in first.items()}
            for first, second in zip(one, other)]


def run_loud(structure, m, program, inputs, coins, liars, lies):
    """The loud run of a program, for a quiet structure."""
    check_quiet(structure)
    check_given(m, program, structure[1], inputs)
    sharing = Sharing(structure)
    check_coins(coins, m, sharing.loud_coins(program))
    check_group(structure, liars)
    check_lies(lies)
    return LoudCourse(sharing, Dealings(sharing.many, m, coins), liars, lies).run(program, inputs)


def view_loud(run, program, inputs, group):
    """What a group sees of a loud run: the tuple of its inputs, its coins, the letters to it and the board."""
    return run.view(program, inputs, group)


def attack(structure):
    """A loud run in which liars have an honest person told a wrong value; None for a sound structure."""
    check_quiet(structure)
    three = three_groups(structure)
    if three is None:
        return None
    groups = structure[2]
    liars, around = groups[three[0] - 1], groups[three[1] - 1]
    person = [member for member in around if member not in liars][0]
    program = (("put", person), ("tell", 0, (person,)))
    # The coins make 1 of the part that the group around the person does not hold, and 0 of all others.
    coins = tuple([1 if part == three[1] else 0 for part in range(1, len(groups))])
    honest = run_loud(structure, 2, program, (1,), coins, liars, ())
    return (program, (1,), coins, liars, lies_for(honest, liars, three[1]), person)


def lies_for(honest, liars, part):
    """The lies for a run that goes like an honest one until the liars tell 0 for a part that is 1.

    The others who hold the part lie within the third group: so the person reads the least number said.
    """
    lies = [0 for entry in honest.board if entry[0] in liars]
    for letter in honest.letters:
        if letter[0] in liars:
            lies.append(1 if letter[2:4] == (1, part) else 0)
    return tuple(lies)
