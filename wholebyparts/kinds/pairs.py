"""What is asked of two structures, a row of each, and a depth, ahead of their kinds."""

from wholebyparts.checks import check_number, power
from wholebyparts.errors import InvalidOperation, TooMany
from wholebyparts.part.rows import check_row
from wholebyparts.part.structures import check_structure
from wholebyparts.say.formulas import most_depth

MOST_KINDS = 4096


def check_side(structure, row):
    """Refuse what is no structure with a row of it."""
    check_structure(structure)
    check_row(structure, row)


def check_depth(value, members):
    """Refuse what is no depth beside so many members."""
    check_number(value, 0, most_depth(members))


def check_sides(one, row, other, goal):
    """Refuse what are no two structures with a row of each."""
    check_side(one, row)
    check_side(other, goal)


def check_signatures(one, other):
    """Refuse structures of unlike signatures."""
    if one.signature != other.signature:
        raise InvalidOperation("the structures have unlike signatures")


def check_alike(one, row, other, goal):
    """Refuse structures of unlike signatures, and rows of unlike lengths."""
    check_signatures(one, other)
    if len(row) != len(goal):
        raise InvalidOperation("the rows have unlike lengths")


def check_rows(one, row, other, goal, depth):
    """Refuse what cannot be asked for kinds of the depth."""
    check_sides(one, row, other, goal)
    check_depth(depth, max(len(row), len(goal)))
    check_alike(one, row, other, goal)


def check_limit(structure, depth):
    """The kinds limit of a structure."""
    if power(structure.size + 1, depth) > MOST_KINDS:
        raise TooMany(MOST_KINDS)


def check_limits(one, other, depth):
    """The kinds limit of both structures."""
    check_limit(one, depth)
    check_limit(other, depth)
