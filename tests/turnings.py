"""What the tests of turned coins share, by the words of [16]; nothing here uses the package."""

from tests.runs import puts_of


def first_around(structure, group):
    """b: the first number of a group within which these people lie."""
    return [number for number, greatest in enumerate(structure[2], 1) if set(group) <= set(greatest)][0]


def others_for(rng, m, program, inputs, group):
    """Other inputs in which the inputs of members are the same."""
    people = [program[at][1] for at in puts_of(program)]
    return [number if person in group else rng.randrange(m) for person, number in zip(people, inputs)]


def told_to(program, group, plain):
    """{row: plain value} of the tell rows to members."""
    return {at: plain[at] for at, row in enumerate(program) if row[0] == "tell" and set(row[2]) & set(group)}


def turned_right(structure, m, before, after, coins, other_coins, group):
    """Whether these are the turned coins, by the words of [16]; before and after are the runs with both."""
    part, k = first_around(structure, group), len(structure[2])
    expected = list(coins[:len(before.taken)])
    for at, (one, other) in enumerate(zip(before.dealt, after.dealt)):
        if part < k:
            place = at * (k - 1) + part - 1
            expected[place] = (expected[place] + other[1] - one[1]) % m
    same_people = [person for person, _ in before.dealt] == [person for person, _ in after.dealt]
    return same_people and repr(other_coins) == repr(expected)
