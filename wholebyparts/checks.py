"""What all parts of the package ask of the values that are passed."""

from wholebyparts.errors import InvalidNumber

MOST_MEMBERS = 4


def is_integer(value):
    """Whether the value is an integer: True and False are none."""
    return isinstance(value, int) and not isinstance(value, bool)


def is_between(value, low, high):
    """Whether the value is an integer from low to high."""
    return is_integer(value) and low <= value <= high


def is_index(value, many):
    """Whether the value is an index of so many things."""
    return is_between(value, 0, many - 1)


def is_ascending(values):
    """Whether the values, which can be compared, ascend strictly."""
    return all([low < high for low, high in zip(values, values[1:])])


def is_index_tuple(value, many):
    """Whether the value is an ascending tuple of indices of so many things."""
    if not isinstance(value, tuple):
        return False
    return all([is_index(member, many) for member in value]) and is_ascending(value)


def is_index_pair(value, many):
    """Whether the value is a pair of indices of so many things."""
    return isinstance(value, tuple) and len(value) == 2 and all([is_index(member, many) for member in value])


def is_pair_tuple(value, many):
    """Whether the value is an ascending tuple of pairs of indices of so many things."""
    if not isinstance(value, tuple):
        return False
    return all([is_index_pair(member, many) for member in value]) and is_ascending(value)


def is_order(value, many):
    """Whether the value is a tuple of the numbers from 0 to many - 1, each once."""
    if not isinstance(value, tuple) or len(value) != many:
        return False
    return all([is_index(member, many) for member in value]) and len(set(value)) == many


def check_number(value, low, high):
    """Refuse what is no integer from low to high."""
    if not is_between(value, low, high):
        raise InvalidNumber(value)


def check_index(value, many):
    """Refuse what is no index of so many things."""
    check_number(value, 0, many - 1)


def check_members(value):
    """Refuse what is no number of free variables, or of places of a row."""
    check_number(value, 0, MOST_MEMBERS)


def power(base, exponent):
    """The base, so many times multiplied."""
    product_so_far = 1
    for _ in range(exponent):
        product_so_far = product_so_far * base
    return product_so_far


def ascending(values):
    """The ascending tuple of the values, each once.

    A set would do for flat values; kinds are nested too deep to be members of one.
    """
    told = []
    for value in sorted(values):
        if not told or told[-1] != value:
            told.append(value)
    return tuple(told)
