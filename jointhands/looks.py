"""The looks at what the functions of several files are handed."""

from jointhands.errors import BadCoins, BadInputs, BadModulus
from jointhands.kinds import is_number, is_row_of
from jointhands.rows import many_rows

GREATEST_MODULUS = 1000000


def check_modulus(m):
    """Raises BadModulus if this is no modulus."""
    if not is_number(m, 2, GREATEST_MODULUS):
        raise BadModulus("a modulus is an integer from 2 to 1000000")


def check_inputs(program, inputs, m):
    """Raises BadInputs if these are not the inputs of a good program."""
    if not is_row_of(inputs, 0, m - 1) or len(inputs) != many_rows(program, "put"):
        raise BadInputs("the inputs are a list or tuple of one integer for each put row, from 0, below the modulus")


def check_coins(coins, m, least):
    """Raises BadCoins if these are no coins, or less than the run takes."""
    if not is_row_of(coins, 0, m - 1) or len(coins) < least:
        raise BadCoins("the coins are a list or tuple of as many integers as the run takes, from 0, below the modulus")
