"""Who holds the parts of numbers in a quiet structure, and who deals products."""

from jointhands.rows import many_rows
from jointhands.structures import outside


class Sharing:
    """What a quiet structure tells of the parts; they are counted from 0 here.

    groups are the greatest groups; many is the number of parts; held_by has the people who hold each of
    them, ascending. both has, by pair of parts, in order, all people who hold both, ascending. products
    has, by person, ascending, the pairs of parts whose products belong to that person in a quiet run,
    without those who have none.
    """

    def __init__(self, structure):
        n, self.groups = structure[1], structure[2]
        self.many = len(self.groups)
        self.held_by = [outside(n, (group,)) for group in self.groups]
        self.both = both_held(n, self.groups)
        self.products = products_of(n, self.both)

    def quiet_coins(self, program):
        """How many coins the quiet run of a program takes."""
        return self.coins_for(program, len(self.products))

    def loud_coins(self, program):
        """How many coins the loud run of a program takes."""
        return self.coins_for(program, sum([len(people) for people in self.both.values()]))

    def coins_for(self, program, dealings):
        """How many coins a run takes in which there are so many dealings for each times row."""
        return (many_rows(program, "put") + many_rows(program, "times") * dealings) * (self.many - 1)


def both_held(n, groups):
    """By pair of parts, in order, the people of n who hold both."""
    found = {}
    for one, group in enumerate(groups):
        for other, other_group in enumerate(groups):
            found[one, other] = outside(n, (group, other_group))
    return found


def products_of(n, both):
    """The pairs of parts whose products belong to each of n people, without those who have none."""
    pairs = {person: [] for person in range(1, n + 1)}
    for pair, people in both.items():
        pairs[people[0]].append(pair)
    return {person: found for person, found in pairs.items() if found}
