"""Formulas about sets of places of a word, and the readers that take just the words of which they hold."""

from wholebyparts.checks import check_number, is_index_tuple
from wholebyparts.errors import InvalidFormula, InvalidOperation, TooMany
from wholebyparts.read.drafts import draft_of, is_one_draft, reader_from
from wholebyparts.read.readers import check_reader, check_word
from wholebyparts.read.setforms import SetLevels, is_well_formed, places_of, quantified
from wholebyparts.read.setreaders import draft_of_formula
from wholebyparts.read.settold import Telling

MOST_SET_LETTERS = 8
MOST_HANDED = 200
MOST_TOLD = 2000
MOST_AT_ONCE = 6
MOST_FREE = 3
MOST_TRIED = 12
MOST_TOLD_STATES = 4


def is_set_formula(letters, free, value):
    """Whether the value is a set formula that can be handed in."""
    check_number(letters, 1, MOST_SET_LETTERS)
    check_number(free, 0, MOST_FREE)
    return is_well_formed(letters, free, value, MOST_HANDED)


def _check_formula(letters, free, value):
    if not is_well_formed(letters, free, value, MOST_HANDED):
        raise InvalidFormula(f"this is no set formula with {free} free variables")


def holds_at(letters, word, sets, formula):
    """Whether the formula holds of the word at the sets."""
    check_number(letters, 1, MOST_SET_LETTERS)
    check_word(letters, word)
    if not _are_sets(len(word), sets):
        raise InvalidOperation("the sets are no tuple of ascending tuples of places")
    _check_formula(letters, len(sets), formula)
    if len(word) * quantified(formula) > MOST_TRIED:
        raise TooMany(MOST_TRIED)
    row = tuple([places_of(places) for places in sets])
    return SetLevels(letters, word, row).answers(formula)[0]


def _are_sets(length, value):
    """Whether the value is a tuple of sets of places of a word of the length, no more than can be free."""
    if not isinstance(value, tuple) or len(value) > MOST_FREE:
        return False
    return all([is_index_tuple(places, length) for places in value])


def set_reader(letters, formula):
    """The least reader of the words of which the closed formula holds."""
    check_number(letters, 1, MOST_SET_LETTERS)
    _check_formula(letters, 0, formula)
    return reader_from(draft_of_formula(letters, formula))


def _check_told(reader):
    check_reader(reader)
    if reader.states > MOST_TOLD_STATES:
        raise TooMany(MOST_TOLD_STATES)
    if reader.letters > MOST_SET_LETTERS:
        raise TooMany(MOST_SET_LETTERS)


def set_formula(reader):
    """Any closed formula that holds of just the words that the reader takes."""
    _check_told(reader)
    return Telling(reader_from(draft_of(reader))).told()


def is_told_formula(letters, value):
    """Whether the value is a closed set formula, of as many nodes as one that is told can have."""
    return is_well_formed(letters, 0, value, MOST_TOLD)


def is_set_formula_of(reader, value):
    """Whether the value is a closed formula that holds of just the words that the reader takes."""
    _check_told(reader)
    if not is_told_formula(reader.letters, value):
        return False
    return is_one_draft(draft_of_formula(reader.letters, value), draft_of(reader))
