"""Who holds the parts of numbers in a quiet structure, and to whom their products belong."""

from jointhands.rows import many_rows
from jointhands.structures import outside


class Sharing:
    """What a quiet structure tells of the parts; they are counted from 0 here.

    many is the number of parts; held_by has the people who hold each of them, ascending; products has, by
    person, ascending, the pairs of parts whose products belong to that person, none of those who have none.
    """

    def __init__(self, structure):
        n, groups = structure[1], structure[2]
        self.many = len(groups)
        self.held_by = [outside(n, (group,)) for group in groups]
        self.products = products_of(n, groups)

    def coins_for(self, program):
        """How many coins the quiet run of a program takes."""
        dealings = many_rows(program, "put") + many_rows(program, "times") * len(self.products)
        return dealings * (self.many - 1)


def products_of(n, groups):
    """The pairs of parts whose products belong to each of n people, without those who have none."""
    pairs = {person: [] for person in range(1, n + 1)}
    for one, group in enumerate(groups):
        for other, other_group in enumerate(groups):
            first = outside(n, (group, other_group))[0]
            pairs[first].append((one, other))
    return {person: found for person, found in pairs.items() if found}
