"""Rows of a structure: members that are elements, or none."""

from wholebyparts.checks import MOST_MEMBERS, is_between
from wholebyparts.errors import InvalidRow

NONE = -1


def is_row(structure, value):
    """Whether the value is a row of the structure."""
    if not isinstance(value, tuple) or len(value) > MOST_MEMBERS:
        return False
    return all([is_between(member, NONE, structure.size - 1) for member in value])


def check_row(structure, row):
    """Refuse what is no row of the structure."""
    if not is_row(structure, row):
        raise InvalidRow("this is no row of its structure")


def check_row_of(structure, row, many):
    """Refuse what is no row of the structure with so many members."""
    if not is_row(structure, row) or len(row) != many:
        raise InvalidRow(f"this is no row of its structure with {many} members")


def rows_of(structure, many):
    """The ascending list of all rows of so many elements of the structure."""
    rows = [()]
    for _ in range(many):
        rows = [row + (member,) for row in rows for member in range(structure.size)]
    return rows
