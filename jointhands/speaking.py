"""What people send in a loud run, by letter and on the board, with the lies of those who lie."""

from jointhands.structures import group_around


class Speaking:
    """The letters and the board of a loud run as it goes on.

    row is the number of the row that is being run; parts are counted from 0 here, and from 1 in letters
    and entries.
    """

    def __init__(self, m, liars, lies):
        self.m = m
        self.liars = tuple(liars)
        self.lies = lies
        self.lied = 0
        self.row = 0
        self.letters = []
        self.board = []

    def begin_row(self, row):
        """From here on the row with this number is being run."""
        self.row = row

    def sent(self, person, number):
        """The number that goes out where a person should send this one."""
        if person not in self.liars or self.lied == len(self.lies):
            return number
        self.lied += 1
        return (number + self.lies[self.lied - 1]) % self.m

    def write(self, sender, receiver, at, number):
        """The number that is received where this one should be sent by a letter."""
        number = self.sent(sender, number)
        self.letters.append((sender, receiver, self.row, at + 1, number))
        return number

    def say(self, speaker, at, number):
        """The number that everybody reads where this one should be said on the board."""
        number = self.sent(speaker, number)
        self.board.append((speaker, self.row, at + 1, number))
        return number


def read_from(said, groups):
    """What is read where people said numbers, told by person; groups are the greatest ones."""
    numbers = sorted(set(list(said.values())))
    for number in numbers:
        others = [person for person in said if said[person] != number]
        if group_around(groups, others) is not None:
            return number
    return numbers[0]
