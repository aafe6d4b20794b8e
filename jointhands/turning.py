"""Turned coins, with which a group sees the same of other inputs, and views that are made of what it may know."""

from jointhands.dealings import Dealings, TurnedDealings
from jointhands.errors import BadGroup, BadTurn
from jointhands.looks import check_coins, check_group, check_inputs, check_lies, check_values
from jointhands.loud import LoudCourse
from jointhands.programs import check_given
from jointhands.quiet import QuietCourse, view_quiet
from jointhands.rows import put_rows, values_of
from jointhands.sharing import Sharing
from jointhands.structures import check_quiet, check_sound, group_around, is_within


def turned(structure, m, program, inputs, others, coins, group):
    """The list of the coins that are turned from inputs to others, for a group, in quiet runs."""
    check_quiet(structure)
    check_given(m, program, structure[1], inputs)
    check_inputs(program, others, m)
    sharing = Sharing(structure)
    check_coins(coins, m, sharing.quiet_coins(program))
    check_group(structure, group)
    check_turn(program, inputs, others, group)
    first = Dealings(sharing.many, m, coins)
    QuietCourse(sharing, first).run(program, inputs)
    second = TurnedDealings(first, group_around(sharing.groups, group))
    QuietCourse(sharing, second).run(program, others)
    return second.coins_taken()


def turned_loud(structure, m, program, inputs, others, coins, group, liars, lies):
    """The list of the coins that are turned from inputs to others, for a group with all liars, in loud runs."""
    check_sound(structure)
    check_given(m, program, structure[1], inputs)
    check_inputs(program, others, m)
    sharing = Sharing(structure)
    check_coins(coins, m, sharing.loud_coins(program))
    check_group(structure, group)
    check_group(structure, liars)
    if not is_within(liars, group):
        raise BadGroup("not all liars are members of the group")
    check_lies(lies)
    check_turn(program, inputs, others, group)
    first = Dealings(sharing.many, m, coins)
    LoudCourse(sharing, first, liars, lies).run(program, inputs)
    second = TurnedDealings(first, group_around(sharing.groups, group))
    LoudCourse(sharing, second, liars, lies).run(program, others)
    return second.coins_taken()


def check_turn(program, inputs, others, group):
    """Raises BadTurn if the input of a member of the group is not the same in inputs and others."""
    for at, number, other in zip(put_rows(program), inputs, others):
        if program[at][1] in group and number != other:
            raise BadTurn("the input of a member is not the same")


def made_view(structure, m, program, inputs, values, coins, group):
    """The view of a quiet run that is made of what a group may know: its inputs, and the values told to it."""
    check_quiet(structure)
    check_given(m, program, structure[1], inputs)
    check_values(program, values, m)
    sharing = Sharing(structure)
    check_coins(coins, m, sharing.quiet_coins(program))
    check_group(structure, group)
    run = QuietCourse(sharing, Dealings(sharing.many, m, coins)).run(program, inputs)
    seen, taken, letters = view_quiet(run, program, inputs, group)
    raises = raises_of(program, inputs, values, m)
    part = group_around(sharing.groups, group) + 1
    return (seen, taken, tuple([raised(letter, part, raises, m) for letter in letters]))


def raises_of(program, inputs, values, m):
    """By the numbers of the tell rows, by how much the value handed in is more than the plain one."""
    plain_values = values_of(program, [inputs], m)
    tells = [at for at, row in enumerate(program) if row[0] == "tell"]
    return {at: value - plain_values[at][0] for at, value in zip(tells, values)}


def raised(letter, part, raises, m):
    """A letter, with its number raised if it is about this part in a telling."""
    sender, receiver, row, about, number = letter
    if row not in raises or about != part:
        return letter
    return (sender, receiver, row, about, (number + raises[row]) % m)
