"""The quiet run of a program, and what a group of people sees of it."""

from jointhands.dealings import Dealings
from jointhands.looks import check_coins
from jointhands.programs import check_given
from jointhands.rows import item_by_item, joined, put_rows
from jointhands.sharing import Sharing
from jointhands.structures import check_quiet
from jointhands.views import Run


class QuietRun(Run):
    """What was done in a quiet run.

    parts has a tuple of the parts of each row, None for tell rows; told the triples (row, person, number)
    of what was told; letters the letters; taken the pairs (person, coin); dealt the pairs (person, number)
    of all dealings; all of them lists, in order.
    """

    def __init__(self, parts, told, letters, dealings):
        super().__init__(told, letters, dealings)
        self.parts = parts


class QuietCourse:
    """A quiet run as it goes on, row by row."""

    def __init__(self, sharing, dealings):
        self.sharing = sharing
        self.dealings = dealings
        self.m = dealings.m
        self.parts = []
        self.told = []
        self.letters = []

    def deal(self, person, number):
        """Deals a number for the row that is being run; its parts."""
        parts = self.dealings.parts_of(person, number)
        for at, part in enumerate(parts):
            for receiver in self.sharing.held_by[at]:
                self.send(person, receiver, at, part)
        return parts

    def send(self, sender, receiver, at, number):
        """Sends a part, counted from 0, of the row that is being run; nobody sends letters to themselves."""
        if sender != receiver:
            self.letters.append((sender, receiver, len(self.parts), at + 1, number))

    def multiply(self, row):
        """The parts of a times row."""
        one, other = self.parts[row[1]], self.parts[row[2]]
        total = (0,) * self.sharing.many
        for person, pairs in self.sharing.products.items():
            number = sum([one[g] * other[h] for g, h in pairs]) % self.m
            total = joined(total, self.deal(person, number), 1, self.m)
        return total

    def tell(self, row):
        """Tells the number of a row to people: each gets the parts that they do not hold."""
        parts = self.parts[row[1]]
        for person in row[2]:
            for at, part in enumerate(parts):
                people = self.sharing.held_by[at]
                if person not in people:
                    self.send(people[0], person, at, part)
            self.told.append((len(self.parts), person, sum(parts) % self.m))

    def run_row(self, row, given):
        """Runs the next row; given is the input, if it is a put row."""
        word = row[0]
        if word == "put":
            parts = self.deal(row[1], given)
        elif word == "number":
            parts = (row[1] % self.m,) + (0,) * (self.sharing.many - 1)
        elif word == "times":
            parts = self.multiply(row)
        elif word == "tell":
            parts = None
            self.tell(row)
        else:
            parts = item_by_item(row, self.parts, self.m)
        self.parts.append(parts)

    def run(self, program, inputs):
        """Runs all rows; the run that comes of it."""
        given = dict(zip(put_rows(program), inputs))
        for at, row in enumerate(program):
            self.run_row(row, given.get(at))
        return QuietRun(self.parts, self.told, self.letters, self.dealings)


def run_quiet(structure, m, program, inputs, coins):
    """The quiet run of a program, for a quiet structure."""
    check_quiet(structure)
    check_given(m, program, structure[1], inputs)
    sharing = Sharing(structure)
    check_coins(coins, m, sharing.quiet_coins(program))
    return QuietCourse(sharing, Dealings(sharing.many, m, coins)).run(program, inputs)


def view_quiet(run, program, inputs, group):
    """What a group sees of a quiet run: the tuple of its inputs, its coins and the letters to it."""
    return run.view(program, inputs, group)
