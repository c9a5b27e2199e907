"""Kinds of rows: which there are, and what they tell."""

from wholebyparts.checks import check_index, check_members, check_number
from wholebyparts.errors import InvalidOperation
from wholebyparts.kinds.atoms import atom_of
from wholebyparts.kinds.forms import has_form
from wholebyparts.kinds.numbering import Numbering
from wholebyparts.kinds.pairs import check_depth, check_limit, check_limits, check_rows, check_side
from wholebyparts.kinds.trees import KindLevels, check_kind, cut_to, depth_told, kind_of, with_place_out
from wholebyparts.part.structures import check_signature
from wholebyparts.say.formulas import check_formula, quantified


def atom(structure, row):
    """The atom of the row."""
    check_side(structure, row)
    return atom_of(structure, row)


def kind(structure, row, depth):
    """The kind of the row of the depth."""
    check_side(structure, row)
    check_depth(depth, len(row))
    check_limit(structure, depth)
    return kind_of(structure, row, depth)


def is_kind(signature, places, depth, value):
    """Whether the value is by its form a kind."""
    check_signature(signature)
    check_members(places)
    check_depth(depth, places)
    return has_form(signature, places, depth, value)


def _check(signature, places, tree):
    check_signature(signature)
    check_members(places)
    check_kind(signature, places, tree)


def told(signature, places, kind, formula):
    """Whether the formula holds at the rows of the kind."""
    _check(signature, places, kind)
    check_formula(signature, places, formula)
    if quantified(formula) > depth_told(kind):
        raise InvalidOperation("the formula has a greater depth than the kind")
    return KindLevels(places, kind).answers(formula)[0]


def cut(signature, places, kind, depth):
    """The kind, cut to the depth."""
    _check(signature, places, kind)
    check_number(depth, 0, depth_told(kind))
    return cut_to(kind, depth)


def left_out(signature, places, kind, place):
    """The kind without the place."""
    _check(signature, places, kind)
    check_index(place, places)
    return with_place_out(kind, places, place)


def same_kind(one, row, other, goal, depth):
    """Whether both rows have one kind of the depth."""
    check_rows(one, row, other, goal, depth)
    check_limits(one, other, depth)
    return Numbering(one, other).is_one_kind(row, goal, depth)
