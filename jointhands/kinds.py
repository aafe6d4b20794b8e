"""Looks at values of whatever kind.

A value may be anything, so its kind is asked before anything else is done with it: a stranger's own
comparisons and lengths are never called. True and False are no integers here.
"""


def is_number(value, low, high):
    """True if the value is an integer from low to high."""
    return type(value) is int and low <= value <= high


def is_ascending(numbers, low, high):
    """True if the items of a list or tuple are integers from low to high, each greater than the one ahead of it."""
    least = low
    for number in numbers:
        if not is_number(number, least, high):
            return False
        least = number + 1
    return True


def is_pair_below(pair, sizes):
    """True if this is a pair of integers, each from 0 to one less than its size."""
    if type(pair) is not tuple or len(pair) != 2:
        return False
    return is_number(pair[0], 0, sizes[0] - 1) and is_number(pair[1], 0, sizes[1] - 1)


def is_integers(row, many):
    """True if this is a tuple of so many integers."""
    if type(row) is not tuple or len(row) != many:
        return False
    for number in row:
        if type(number) is not int:
            return False
    return True


def has_word(value, word, many):
    """True if this is a tuple of so many items, the first of which is the word."""
    if type(value) is not tuple or len(value) != many:
        return False
    first = value[0]
    return type(first) is str and first == word


def is_row_of(numbers, low, high):
    """True if this is a list or tuple of integers from low to high, of none too."""
    if type(numbers) not in (list, tuple):
        return False
    for number in numbers:
        if not is_number(number, low, high):
            return False
    return True
