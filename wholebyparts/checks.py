"""What all parts of the package ask of the values that are passed."""

from wholebyparts.errors import InvalidNumber

MOST_MEMBERS = 4


def is_integer(value):
    """Whether the value is an integer: True and False are none."""
    return type(value) is int


def are_integers(values):
    """Whether all of the values are integers: this is asked of long tuples, so nothing is called for each member."""
    return not [value for value in values if type(value) is not int]


def are_indices(values, many):
    """Whether all of the values are indices of so many things."""
    return are_integers(values) and (not values or (min(values) >= 0 and max(values) < many))


def is_between(value, low, high):
    """Whether the value is an integer from low to high."""
    return is_integer(value) and low <= value <= high


def is_index(value, many):
    """Whether the value is an index of so many things."""
    return is_between(value, 0, many - 1)


def is_ascending(values):
    """Whether the values, which can be compared, ascend strictly."""
    return all([low < high for low, high in zip(values, values[1:])])


def is_index_tuple(value, many):
    """Whether the value is an ascending tuple of indices of so many things."""
    return isinstance(value, tuple) and are_indices(value, many) and is_ascending(value)


def are_pairs(values):
    """Whether all of the values are tuples of two members."""
    return not [value for value in values if type(value) is not tuple or len(value) != 2]


def is_pair_tuple(value, many):
    """Whether the value is an ascending tuple of pairs of indices of so many things."""
    if not isinstance(value, tuple) or not are_pairs(value):
        return False
    return are_indices([member for pair in value for member in pair], many) and is_ascending(value)


def is_order(value, many):
    """Whether the value is a tuple of the numbers from 0 to many - 1, each once."""
    if not isinstance(value, tuple) or len(value) != many:
        return False
    return are_indices(value, many) and len(set(value)) == many


def check_number(value, low, high):
    """Refuse what is no integer from low to high."""
    if not is_between(value, low, high):
        raise InvalidNumber(value)


def check_index(value, many):
    """Refuse what is no index of so many things."""
    check_number(value, 0, many - 1)


def check_members(value):
    """Refuse what is no number of free variables, or of places of a row."""
    check_number(value, 0, MOST_MEMBERS)


def power(base, exponent):
    """The base, so many times multiplied."""
    product_so_far = 1
    for _ in range(exponent):
        product_so_far = product_so_far * base
    return product_so_far


def ascending(values):
    """The ascending tuple of the values, each once.

    A set would do for flat values; kinds are nested too deep to be members of one.
    """
    told = []
    for value in sorted(values):
        if not told or told[-1] != value:
            told.append(value)
    return tuple(told)
