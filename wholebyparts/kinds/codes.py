"""Rows by codes: what is told of a member is its own code, and those of it beside each member ahead.

Rows have equal atoms exactly if the same is told of all their members, one by one. The codes are those of the
structures at hand, as `Structure.codes` gives them.
"""

from wholebyparts.part.rows import NONE

# No code of two members has more bits.
WIDTH = 5


def told_of_last(codes, row):
    """What is told of the last member of a row; nothing of none, beside which all codes are alike."""
    singles, pairs = codes
    last = row[-1]
    if last == NONE:
        return ()
    return (singles[last], *[pairs[member][last] for member in row[:-1]])


def told_behind(codes, row, ahead):
    """The list of one number for each element behind the row: equal ones tell alike of it and of what stands ahead.

    The list behind the row without its last member can be used again; without a member it is None.
    """
    singles, pairs = codes
    if not row:
        return singles
    return [told << WIDTH | code for told, code in zip(ahead, pairs[row[-1]])]


def has_equal_atoms(sides, row, goal):
    """Whether rows of both sides, equally long, have equal atoms."""
    for many in range(1, len(row) + 1):
        if told_of_last(sides[0], row[:many]) != told_of_last(sides[1], goal[:many]):
            return False
    return True


def atom_by_codes(codes, signature, row):
    """The atom of a row of a structure with the codes and the signature."""
    singles, pairs = codes
    there = [place for place, member in enumerate(row) if member != NONE]
    told = [(i, j, pairs[row[i]][row[j]]) for i in there for j in there]
    nones, same = (), ()
    if len(there) < len(row):
        nones = tuple([place for place, member in enumerate(row) if member == NONE])
    if len(there) > 1:
        same = tuple([(i, j) for i, j, code in told if code & 1 and i < j])
    marks = [tuple([i for i in there if singles[row[i]] >> mark & 1]) for mark in range(signature[0])]
    links = [tuple([(i, j) for i, j, code in told if code & 2 << 2 * link]) for link in range(signature[1])]
    return (nones, same, tuple(marks), tuple(links))
