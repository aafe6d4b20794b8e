"""The quiet run of a program, and what a group of people sees of it."""

from jointhands.looks import check_coins, check_inputs, check_modulus
from jointhands.programs import check_program
from jointhands.rows import item_by_item, put_rows
from jointhands.sharing import Sharing
from jointhands.structures import check_quiet


class QuietRun:
    """What was done in a quiet run.

    parts has a tuple of the parts of each row, None for tell rows; told the triples (row, person, number)
    of what was told; letters the letters; taken the pairs (person, coin); dealt the pairs (person, number)
    of all dealings; all of them lists, in order.
    """

    def __init__(self, parts, told, letters, taken, dealt):
        self.parts = parts
        self.told = told
        self.letters = letters
        self.taken = taken
        self.dealt = dealt
        # The lists are the caller's, who may modify them: views are made of what stays as it is.
        self._kept_taken = tuple(taken)
        self._kept_letters = tuple(letters)

    def coins_of(self, group):
        """The coins that the people of a group took, in order."""
        return tuple([coin for person, coin in self._kept_taken if person in group])

    def letters_to(self, group):
        """The letters that the people of a group received, in order."""
        return tuple([letter for letter in self._kept_letters if letter[1] in group])


class Course:
    """A quiet run as it goes on, row by row."""

    def __init__(self, sharing, m, coins):
        self.sharing = sharing
        self.m = m
        self.coins = coins
        self.parts = []
        self.told = []
        self.letters = []
        self.taken = []
        self.dealt = []

    def deal(self, person, number):
        """Deals a number for the row that is being run; its parts."""
        first = len(self.taken)
        drawn = self.coins[first:first + self.sharing.many - 1]
        parts = (*drawn, (number - sum(drawn)) % self.m)
        self.dealt.append((person, number))
        self.taken.extend([(person, coin) for coin in drawn])
        for at, part in enumerate(parts):
            for receiver in self.sharing.held_by[at]:
                self.send(person, receiver, at, part)
        return parts

    def send(self, sender, receiver, at, number):
        """Sends a part, counted from 0, of the row that is being run; nobody sends letters to themselves."""
        if sender != receiver:
            self.letters.append((sender, receiver, len(self.parts), at + 1, number))

    def multiply(self, row):
        """The parts of a times row."""
        one, other = self.parts[row[1]], self.parts[row[2]]
        total = (0,) * self.sharing.many
        for person, pairs in self.sharing.products.items():
            number = sum([one[g] * other[h] for g, h in pairs]) % self.m
            dealt = self.deal(person, number)
            total = tuple([(so_far + part) % self.m for so_far, part in zip(total, dealt)])
        return total

    def tell(self, row):
        """Tells the number of a row to people: each gets the parts that they do not hold."""
        parts = self.parts[row[1]]
        for person in row[2]:
            for at, part in enumerate(parts):
                people = self.sharing.held_by[at]
                if person not in people:
                    self.send(people[0], person, at, part)
            self.told.append((len(self.parts), person, sum(parts) % self.m))

    def run_row(self, row, given):
        """Runs the next row; given is the input, if it is a put row."""
        word = row[0]
        if word == "put":
            parts = self.deal(row[1], given)
        elif word == "number":
            parts = (row[1] % self.m,) + (0,) * (self.sharing.many - 1)
        elif word == "times":
            parts = self.multiply(row)
        elif word == "tell":
            parts = None
            self.tell(row)
        else:
            parts = item_by_item(row, self.parts, self.m)
        self.parts.append(parts)


def run_quiet(structure, m, program, inputs, coins):
    """The quiet run of a program, for a quiet structure."""
    check_quiet(structure)
    check_modulus(m)
    check_program(program, structure[1])
    check_inputs(program, inputs, m)
    sharing = Sharing(structure)
    check_coins(coins, m, sharing.coins_for(program))
    course = Course(sharing, m, coins)
    given = dict(zip(put_rows(program), inputs))
    for at, row in enumerate(program):
        course.run_row(row, given.get(at))
    return QuietRun(course.parts, course.told, course.letters, course.taken, course.dealt)


def view_quiet(run, program, inputs, group):
    """What a group sees of a quiet run: the tuple of its inputs, its coins and the letters to it."""
    seen = tuple([(at, number) for at, number in zip(put_rows(program), inputs) if program[at][1] in group])
    return (seen, run.coins_of(group), run.letters_to(group))
