"""What holds in a structure: formulas at rows of its members."""

from wholebyparts.checks import check_members, power
from wholebyparts.errors import InvalidFormula, TooMany
from wholebyparts.part.rows import check_row_of, rows_of
from wholebyparts.part.structures import MOST_RELATIONS, Structure, check_structure
from wholebyparts.say.levels import StructureLevels, holds_at
from wholebyparts.say.formulas import check_formula, is_formula_tuple, quantified

MOST_TRIED = 50000


def _check(structure, free, formula):
    check_structure(structure)
    check_members(free)
    check_formula(structure.signature, free, formula)


def _check_tried(structure, many):
    """Refuse to try so many elements behind one another."""
    if power(structure.size, many) > MOST_TRIED:
        raise TooMany(MOST_TRIED)


def holds(structure, free, formula, row):
    """Whether the formula holds at the row."""
    _check(structure, free, formula)
    check_row_of(structure, row, free)
    _check_tried(structure, quantified(formula))
    return holds_at(structure, row, formula)


def rows_that(structure, free, formula):
    """The ascending tuple of all rows of elements at which the formula holds."""
    _check(structure, free, formula)
    _check_tried(structure, free + quantified(formula))
    return tuple(_rows_with(structure, free, formula))


def _rows_with(structure, free, formula):
    """The ascending list of all rows of so many elements at which the formula holds."""
    rows = rows_of(structure, free)
    answers = StructureLevels(structure, rows).answers(formula)
    return [row for row, answer in zip(rows, answers) if answer]


def witness(structure, free, formula, row):
    """The least element with which the formula within holds, None if there is none."""
    _check(structure, free, formula)
    if formula[0] != "some":
        raise InvalidFormula("the formula does not begin with some")
    check_row_of(structure, row, free)
    _check_tried(structure, quantified(formula))
    rows = [row + (member,) for member in range(structure.size)]
    answers = StructureLevels(structure, rows).answers(formula[1])
    return answers.index(True) if True in answers else None


def unlike_row(structure, free, first, second):
    """The least row of elements at which just one of both formulas holds, None if there is none."""
    _check(structure, free, first)
    check_formula(structure.signature, free, second)
    _check_tried(structure, free + max(quantified(first), quantified(second)))
    rows = rows_of(structure, free)
    levels = StructureLevels(structure, rows)
    for row, one, other in zip(rows, levels.answers(first), levels.answers(second)):
        if one != other:
            return row
    return None


def changed_structure(structure, marks, links):
    """The structure with the same elements whose marks and links the formulas tell."""
    check_structure(structure)
    if not is_formula_tuple(structure.signature, 1, marks, MOST_RELATIONS, 0):
        raise InvalidFormula("the marks are not told by formulas without quantifiers with one free variable")
    if not is_formula_tuple(structure.signature, 2, links, MOST_RELATIONS, 0):
        raise InvalidFormula("the links are not told by formulas without quantifiers with two free variables")
    told = [tuple([row[0] for row in _rows_with(structure, 1, formula)]) for formula in marks]
    pairs = [tuple(_rows_with(structure, 2, formula)) for formula in links]
    return Structure(structure.size, tuple(told), tuple(pairs))
