"""The looks at what the functions of several files are handed."""

from jointhands.errors import BadCoins, BadGroup, BadInputs, BadLies, BadModulus
from jointhands.kinds import is_number, is_row_of
from jointhands.rows import many_rows
from jointhands.structures import is_allowed

GREATEST_MODULUS = 1000000


def check_modulus(m):
    """Raises BadModulus if this is no modulus."""
    if not is_number(m, 2, GREATEST_MODULUS):
        raise BadModulus("a modulus is an integer from 2 to 1000000")


def check_inputs(program, inputs, m):
    """Raises BadInputs if these are not the inputs of a good program."""
    check_numbers(program, "put", inputs, m)


def check_values(program, values, m):
    """Raises BadInputs if these are not values for the tell rows of a good program."""
    check_numbers(program, "tell", values, m)


def check_numbers(program, word, numbers, m):
    """Raises BadInputs if these are not one number for each row of a good program with this word."""
    if not is_row_of(numbers, 0, m - 1) or len(numbers) != many_rows(program, word):
        raise BadInputs(f"this is no list or tuple of one integer for each {word} row, from 0, below the modulus")


def check_coins(coins, m, least):
    """Raises BadCoins if these are no coins, or less than the run takes."""
    if not is_row_of(coins, 0, m - 1) or len(coins) < least:
        raise BadCoins("the coins are a list or tuple of as many integers as the run takes, from 0, below the modulus")


def check_group(structure, group):
    """Raises BadGroup if this is no group of people who may put their heads together."""
    if not is_allowed(structure, group):
        raise BadGroup("a group is a list or tuple of people, ascending, that lies within a greatest group")


def check_lies(lies):
    """Raises BadLies if these are no lies."""
    if type(lies) not in (list, tuple):
        raise BadLies("the lies are a list or tuple")
    for lie in lies:
        if type(lie) is not int:
            raise BadLies("the lies are integers")
