"""What a group learns by what it is told, and what runs cost."""

from jointhands.errors import BadInputs
from jointhands.looks import check_group
from jointhands.programs import check_given, check_program
from jointhands.rows import many_rows, put_rows, values_of
from jointhands.sharing import Sharing
from jointhands.structures import check_quiet, check_structure

MOST_ROWS_OF_INPUTS = 20000
# So many rows of inputs are reckoned at once, so that not all values of all of them are kept.
AT_ONCE = 1000


def learned(structure, m, program, inputs, group):
    """The list of all inputs that agree with the given ones for a group."""
    check_structure(structure)
    check_given(m, program, structure[1], inputs)
    check_few_inputs(program, m)
    check_group(structure, group)
    tells = [at for at, row in enumerate(program) if row[0] == "tell" and has_member(row[2], group)]
    told = told_at(program, [inputs], tells, m)[0]
    rows = rows_with_same(program, inputs, group, m)
    found = []
    for first in range(0, len(rows), AT_ONCE):
        some = rows[first:first + AT_ONCE]
        found.extend([row for row, other in zip(some, told_at(program, some, tells, m)) if other == told])
    return found


def check_few_inputs(program, m):
    """Raises BadInputs if there are more than 20000 rows of inputs."""
    many = 1
    for _ in range(many_rows(program, "put")):
        many *= m
        if many > MOST_ROWS_OF_INPUTS:
            raise BadInputs("there are more than 20000 rows of inputs")


def has_member(people, group):
    """True if one of the people is a member of the group."""
    for person in people:
        if person in group:
            return True
    return False


def told_at(program, rows, tells, m):
    """For each of some rows of inputs the list of the values that are told in these tell rows."""
    values = values_of(program, rows, m)
    return [[values[tell][at] for tell in tells] for at in range(len(rows))]


def rows_with_same(program, inputs, group, m):
    """The list of all rows of inputs, as tuples, ascending, in which the inputs of members are the given ones."""
    found = [()]
    for at, number in zip(put_rows(program), inputs):
        choices = [number] if program[at][1] in group else list(range(m))
        found = [(*row, choice) for row in found for choice in choices]
    return found


def quiet_costs(structure, program):
    """The pair of the numbers of letters and of coins of every quiet run of a program."""
    check_quiet(structure)
    check_program(program, structure[1])
    sharing = Sharing(structure)
    product = sum([letters_from(sharing, person) for person in sharing.products])
    letters = 0
    for row in program:
        if row[0] == "put":
            letters += letters_from(sharing, row[1])
        elif row[0] == "times":
            letters += product
        elif row[0] == "tell":
            letters += sum([len(parts_without(sharing, person)) for person in row[2]])
    return (letters, sharing.quiet_coins(program))


def loud_costs(structure, program):
    """The triple of the numbers of letters, entries and coins of every loud run of a program without lies."""
    check_quiet(structure)
    check_program(program, structure[1])
    sharing = Sharing(structure)
    product = product_costs(sharing)
    letters = entries = 0
    for row in program:
        if row[0] == "put":
            letters += loud_letters_from(sharing, row[1])
            entries += all_held(sharing)
        elif row[0] == "times":
            letters += product[0]
            entries += product[1]
        elif row[0] == "tell":
            letters += sum([sum(parts_without(sharing, person)) for person in row[2]])
    return (letters, entries, sharing.loud_coins(program))


def product_costs(sharing):
    """The pair of the numbers of letters and of entries of a times row in a loud run without lies."""
    letters = entries = 0
    for people in sharing.both.values():
        letters += sum([loud_letters_from(sharing, person) for person in people])
        # All deal, and all but the first lay open how their dealing differs from that of the first.
        entries += (len(people) + len(people) - 1) * all_held(sharing)
    return (letters, entries)


def letters_from(sharing, person):
    """How many letters there are of the parts of what a person deals."""
    return sum([len([holder for holder in people if holder != person]) for people in sharing.held_by])


def loud_letters_from(sharing, person):
    """How many letters there are where a person deals loudly: the holders of each part write to each other, too."""
    return letters_from(sharing, person) + sum([len(people) * (len(people) - 1) for people in sharing.held_by])


def all_held(sharing):
    """How many people hold the parts, each counted for each part."""
    return sum([len(people) for people in sharing.held_by])


def parts_without(sharing, person):
    """The list of how many people hold each of the parts that this person does not hold."""
    return [len(people) for people in sharing.held_by if person not in people]
