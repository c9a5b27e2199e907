"""Kinds of wholes, reckoned out of the kinds of their parts."""

from wholebyparts.checks import check_number, power
from wholebyparts.errors import InvalidKind, TooMany
from wholebyparts.kinds.forms import has_form
from wholebyparts.kinds.numbering import Numbering
from wholebyparts.kinds.pairs import check_limit
from wholebyparts.kinds.parting import parting_of
from wholebyparts.kinds.trees import kind_of
from wholebyparts.main.standings import Standings
from wholebyparts.main.stocks import check_depth_with
from wholebyparts.say.formulas import MOST_DEPTH, bounded, is_well_formed, quantified
from wholebyparts.say.levels import holds_at
from wholebyparts.shape.rules import check_parts
from wholebyparts.shape.shapes import check_shape
from wholebyparts.shape.things import Things
from wholebyparts.shape.wholes import check_rows_limit

MOST_KINDS = 3
MOST_TRIED = 4096


def part_kinds(shape, parts, depth):
    """The kinds of the parts, of the depth and the extra together."""
    check_shape(shape)
    check_parts(shape.signature, parts)
    check_number(depth, 0, MOST_DEPTH)
    check_depth_with(shape, depth)
    for part in parts:
        check_limit(part, depth + shape.extra)
    return tuple([kind_of(part, (), depth + shape.extra) for part in parts])


def whole_kind(shape, kinds, depth):
    """The kind of the depth of the whole of parts that have these kinds."""
    check_shape(shape)
    check_number(depth, 0, MOST_DEPTH)
    if not _are_kinds(shape.signature, depth + shape.extra, kinds):
        raise InvalidKind("this is no tuple of kinds of the parts of the depth and the extra together")
    check_depth_with(shape, depth)
    many = 1
    for tree in kinds:
        many = many * len(tree[1])
    if power(many, depth) > MOST_TRIED:
        raise TooMany(MOST_TRIED)
    return Standings(shape).whole_kind(kinds, depth)


def _are_kinds(signature, depth, value):
    """Whether the value is a tuple of kinds of structures, of the depth."""
    if not isinstance(value, tuple) or len(value) > MOST_KINDS:
        return False
    return all([depth <= MOST_DEPTH and has_form(signature, 0, depth, member) for member in value])


def _check_wholes(shape, one, other, depth):
    check_shape(shape)
    check_parts(shape.signature, one)
    check_parts(shape.signature, other)
    check_number(depth, 0, MOST_DEPTH)
    check_depth_with(shape, depth)
    check_rows_limit(one)
    check_rows_limit(other)


def _asked_wholes(shape, one, other, depth):
    """The wholes of both tuples of parts, not put together: refused if they have too many things for the depth."""
    wholes = [Things(shape, parts) for parts in (one, other)]
    if [told for told in wholes if power(told.size + 1, depth) > MOST_TRIED]:
        raise TooMany(MOST_TRIED)
    return wholes


def same_whole_answer(shape, one, other, depth):
    """Whether both wholes have one kind of the depth; if not, any formula that parts them."""
    _check_wholes(shape, one, other, depth)
    first, second = _asked_wholes(shape, one, other, depth)
    numbering = Numbering(first, second)
    if numbering.is_one_kind((), (), depth):
        return ("alike",)
    return ("formula", bounded(parting_of(numbering, (0, ()), (1, ()), depth)))


def is_same_whole_answer(shape, one, other, depth, value):
    """Whether the value is an answer, with any such formula."""
    _check_wholes(shape, one, other, depth)
    first, second = _asked_wholes(shape, one, other, depth)
    if value == ("alike",):
        return Numbering(first, second).is_one_kind((), (), depth)
    if not isinstance(value, tuple) or len(value) != 2 or value[0] != "formula":
        return False
    formula = value[1]
    if not is_well_formed(shape.whole_signature, 0, formula) or quantified(formula) > depth:
        return False
    return holds_at(first, (), formula) and not holds_at(second, (), formula)
