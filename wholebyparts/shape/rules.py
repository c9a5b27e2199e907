"""Rules: tests that are asked of each part, and a reader of their answers."""

from wholebyparts.checks import check_number, power
from wholebyparts.errors import InvalidFormula, InvalidParts, InvalidRow, InvalidRule, InvalidStructure, TooMany
from wholebyparts.part.rows import check_row_of, is_row
from wholebyparts.part.structures import Structure, check_signature
from wholebyparts.read.drafts import both_draft, draft_of, least_draft, led_draft, opposite_draft, reader_from
from wholebyparts.read.readers import Reader, takes
from wholebyparts.say.formulas import is_formula_tuple, is_well_formed, quantified
from wholebyparts.shape.letters import letters_by

MOST_TESTS = 3
MOST_STATES = 12
MOST_PLACES = 2
MOST_TEST_DEPTH = 1
MOST_PARTS = 6


def _check_places(signature, places):
    check_signature(signature)
    check_number(places, 0, MOST_PLACES)


def is_rule(signature, places, value):
    """Whether the value is a rule."""
    _check_places(signature, places)
    return has_form(signature, places, value)


def has_form(signature, places, value):
    """Whether the value is a rule for the signature and so many places."""
    if not isinstance(value, tuple) or len(value) != 2:
        return False
    tests, reader = value
    if not isinstance(reader, Reader) or reader.states > MOST_STATES:
        return False
    if not is_formula_tuple(signature, places, tests, MOST_TESTS, MOST_TEST_DEPTH):
        return False
    return reader.letters == power(2, len(tests))


def check_rule(signature, places, value):
    """Refuse what is no rule for the signature and so many places."""
    if not has_form(signature, places, value):
        raise InvalidRule(f"this is no rule for {places} places and the signature")


def _check_formula(signature, places, value):
    """Refuse what is no test."""
    if not is_well_formed(signature, places, value) or quantified(value) > MOST_TEST_DEPTH:
        raise InvalidFormula(f"this is no formula of depth 0 or 1 with {places} free variables")


def are_parts(signature, value):
    """Whether the value is a tuple of parts of the signature."""
    if not isinstance(value, tuple) or len(value) > MOST_PARTS:
        return False
    return all([isinstance(part, Structure) and part.signature == signature for part in value])


def check_parts(signature, value):
    """Refuse what is no tuple of parts of the signature."""
    if not are_parts(signature, value):
        raise InvalidParts(f"this is no tuple of at most {MOST_PARTS} structures of the signature")


def letter_of(signature, places, rule, structure, row):
    """The letter of the rule at the structure for the row."""
    _check_places(signature, places)
    check_rule(signature, places, rule)
    if not isinstance(structure, Structure) or structure.signature != signature:
        raise InvalidStructure("this is no structure of the signature")
    check_row_of(structure, row, places)
    return letters_by(rule, structure, [row])[0]


def rule_word(signature, places, rule, parts, rows):
    """The word of the letters, part by part."""
    _check_places(signature, places)
    check_rule(signature, places, rule)
    check_parts(signature, parts)
    if not _are_rows(places, parts, rows):
        raise InvalidRow(f"the rows are no rows with {places} members, one for each part")
    return word_at(rule, parts, rows)


def _are_rows(places, parts, value):
    """Whether the value is a tuple of one row for each part."""
    if not isinstance(value, tuple) or len(value) != len(parts):
        return False
    return all([is_row(part, row) and len(row) == places for part, row in zip(parts, value)])


def word_at(rule, parts, rows):
    """The word of the rule for rows of the parts."""
    return tuple([letters_by(rule, part, [row])[0] for part, row in zip(parts, rows)])


def does_hold(signature, places, rule, parts, rows):
    """Whether the rule holds."""
    word = rule_word(signature, places, rule, parts, rows)
    return takes(rule[1], word)


def all_rule(signature, places, formula):
    """The rule that holds if the formula does at each part."""
    _check_places(signature, places)
    _check_formula(signature, places, formula)
    return ((formula,), Reader(2, ((1, 0), (1, 1)), (0,)))


def some_rule(signature, places, formula):
    """The rule that holds if the formula does at some part."""
    _check_places(signature, places)
    _check_formula(signature, places, formula)
    return ((formula,), Reader(2, ((0, 1), (1, 1)), (1,)))


def odd_rule(signature, places, formula):
    """The rule that holds if the formula does at an odd number of parts."""
    _check_places(signature, places)
    _check_formula(signature, places, formula)
    return ((formula,), Reader(2, ((0, 1), (1, 0)), (1,)))


def first_rule(signature, places, guard, formula):
    """The rule that holds if the formula does at the first part at which the guard does."""
    _check_places(signature, places)
    _check_formula(signature, places, guard)
    _check_formula(signature, places, formula)
    return ((guard, formula), Reader(4, ((0, 1, 0, 2), (1, 1, 1, 1), (2, 2, 2, 2)), (2,)))


def opposite_rule(signature, places, rule):
    """The rule with the same tests that holds if the rule does not."""
    _check_places(signature, places)
    check_rule(signature, places, rule)
    return (rule[0], reader_from(opposite_draft(draft_of(rule[1]))))


def both_rules(signature, places, one, other):
    """The rule with the tests of both that holds if both rules do."""
    _check_places(signature, places)
    check_rule(signature, places, one)
    check_rule(signature, places, other)
    tests = one[0] + other[0]
    if len(tests) > MOST_TESTS:
        raise TooMany(MOST_TESTS)
    letters = list(range(power(2, len(tests))))
    # The first tests have the low bits of a letter.
    ahead = led_draft(draft_of(one[1]), [letter % one[1].letters for letter in letters])
    behind = led_draft(draft_of(other[1]), [letter // one[1].letters for letter in letters])
    return (tests, reader_from(least_draft(both_draft(ahead, behind), MOST_STATES)))
