"""The letters of a rule at many rows of a part at once, and what a rule tells of things."""

from wholebyparts.part.rows import NONE
from wholebyparts.say.levels import StructureLevels


def letters_by(rule, structure, rows):
    """The list of the letters of the rule at the structure for the rows: each test that holds has its bit."""
    told = [0] * len(rows)
    for index, test in enumerate(rule[0]):
        answers = StructureLevels(structure, rows).answers(test)
        told = [letter + (1 << index) if answer else letter for letter, answer in zip(told, answers)]
    return told


def members_of(structure):
    """The members of rows of the structure, none last: so none, which is -1, is an index of it."""
    return list(range(structure.size)) + [NONE]


def single_letters(rule, structure):
    """The letters of a rule for one place, by the member."""
    return letters_by(rule, structure, [(member,) for member in members_of(structure)])


def pair_letters(rule, structure):
    """The letters of a rule for two places, by the first member, then by the second one."""
    members = members_of(structure)
    told = letters_by(rule, structure, [(first, second) for first in members for second in members])
    many = len(members)
    return [told[first * many:(first + 1) * many] for first in range(many)]
