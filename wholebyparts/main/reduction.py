"""Questions about the whole, reduced to questions to the parts."""

from wholebyparts.checks import power
from wholebyparts.errors import InvalidFormula, Refused, TooMany
from wholebyparts.main.reducing import Reducing
from wholebyparts.main.stocks import check_asked, check_depth_with, made_reader
from wholebyparts.part.structures import check_signature
from wholebyparts.read.drafts import draft_of, least_draft, led_draft, reader_from
from wholebyparts.read.readers import Reader
from wholebyparts.read.setreaders import draft_of_formula
from wholebyparts.read.sets import MOST_SET_LETTERS, is_told_formula, set_formula
from wholebyparts.say.formulas import MOST_DEPTH, is_formula_tuple, quantified
from wholebyparts.say.levels import holds_at
from wholebyparts.shape.rules import check_parts
from wholebyparts.shape.shapes import check_shape
from wholebyparts.shape.wholes import check_whole_formula

MOST_FORMULAS = 64
MOST_TRIED = 50000


def _check(shape, formula):
    check_shape(shape)
    check_whole_formula(shape, formula)
    check_depth_with(shape, quantified(formula))


def reduction_of(shape, formula):
    """Any list of cases of a part with the reader that takes their words for wholes with the formula."""
    _check(shape, formula)
    formulas, reader = Reducing(shape, formula).told()
    return (tuple(formulas), reader)


def set_reduction_of(shape, formula):
    """Any list of cases of a part with a set formula in the place of the reader."""
    _check(shape, formula)
    formulas, reader = Reducing(shape, formula).told()
    return (tuple(formulas), set_formula(reader))


def is_reduction(shape, stock, formula, value):
    """Whether the value is a reduction that is right on the stock."""
    check_asked(shape, stock, formula)
    wanted = made_reader(shape, stock, formula)
    table = _table(shape, stock, formula, value)
    if table is None:
        return False
    reader = value[1]
    if not isinstance(reader, Reader) or reader.letters != len(value[0]):
        return False
    return _reads_as(draft_of(reader), table, wanted)


def is_set_reduction(shape, stock, formula, value):
    """Whether the value is a set reduction that is right on the stock."""
    check_asked(shape, stock, formula)
    wanted = made_reader(shape, stock, formula)
    table = _table(shape, stock, formula, value)
    if table is None:
        return False
    letters, question = len(value[0]), value[1]
    if letters > MOST_SET_LETTERS or not is_told_formula(letters, question):
        return False
    return _reads_as(draft_of_formula(letters, question), table, wanted)


def _table(shape, stock, formula, value):
    """For each structure of the stock its case, by a pair that begins with a list of cases; None if it is none."""
    if not isinstance(value, tuple) or len(value) != 2:
        return None
    if not _are_formulas(shape.signature, value[0], quantified(formula) + shape.extra):
        return None
    table = [_cases(structure, value[0]) for structure in stock]
    if [found for found in table if len(found) != 1]:
        return None
    return [found[0] for found in table]


def _are_formulas(signature, value, depth):
    """Whether the value is a tuple of 1 to 64 closed formulas, none of a greater depth."""
    return is_formula_tuple(signature, 0, value, MOST_FORMULAS, depth) and len(value) > 0


def _cases(structure, formulas):
    """The list of the indices of the formulas that hold in the structure."""
    return [index for index, formula in enumerate(formulas) if holds_at(structure, (), formula)]


def _reads_as(draft, table, wanted):
    """Whether the draft, reading each letter as the table tells, takes what the wanted least reader does."""
    told = least_draft(led_draft(draft, table))
    return len(told.steps) == wanted.states and reader_from(told) == wanted


def reduced_word(signature, formulas, parts):
    """The word of the cases of the parts."""
    check_signature(signature)
    if not _are_formulas(signature, formulas, MOST_DEPTH):
        raise InvalidFormula(f"this is no tuple of 1 to {MOST_FORMULAS} closed formulas for the signature")
    check_parts(signature, parts)
    deepest = max([quantified(formula) for formula in formulas])
    if [part for part in parts if power(part.size, deepest) > MOST_TRIED]:
        raise TooMany(MOST_TRIED)
    word = []
    for index, part in enumerate(parts):
        found = _cases(part, formulas)
        if len(found) != 1:
            raise Refused(("case", index))
        word.append(found[0])
    return tuple(word)
