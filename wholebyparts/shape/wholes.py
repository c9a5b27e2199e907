"""Wholes: what parts make by a shape, asked element by element."""

from wholebyparts.checks import check_index, is_between, power
from wholebyparts.errors import InvalidFormula, InvalidRow, TooMany
from wholebyparts.part.rows import NONE
from wholebyparts.part.structures import MOST_SIZE, Structure
from wholebyparts.read.readers import state_from
from wholebyparts.say.formulas import is_well_formed, quantified
from wholebyparts.say.levels import StructureLevels
from wholebyparts.shape.rules import check_parts, word_at
from wholebyparts.shape.shapes import check_shape
from wholebyparts.shape.things import Things, things_of

MOST_ROWS = 20000
MOST_TRIED = 4096


def _check(shape, parts):
    check_shape(shape)
    check_parts(shape.signature, parts)


def check_rows_limit(parts):
    """The rows limit."""
    rows = 1
    for part in parts:
        rows = rows * (part.size + 1)
    if rows > MOST_ROWS:
        raise TooMany(MOST_ROWS)


def things(shape, parts):
    """The ascending tuple of the things."""
    _check(shape, parts)
    check_rows_limit(parts)
    return tuple(things_of(shape, parts))


def is_thing(shape, parts, value):
    """Whether the value is a thing."""
    _check(shape, parts)
    return _is_thing(shape, parts, value)


def _is_thing(shape, parts, value):
    if not isinstance(value, tuple) or len(value) != len(parts):
        return False
    if not all([is_between(member, NONE, part.size - 1) for part, member in zip(parts, value)]):
        return False
    return _does_hold(shape.domain, parts, [(member,) for member in value])


def _does_hold(rule, parts, rows):
    """Whether the rule holds for rows of the parts."""
    return state_from(rule[1], 0, word_at(rule, parts, rows)) in rule[1].accepting


def whole(shape, parts):
    """The whole, as a structure."""
    _check(shape, parts)
    check_rows_limit(parts)
    told = Things(shape, parts)
    if told.size > MOST_SIZE:
        raise TooMany(MOST_SIZE)
    every = list(range(told.size))
    marks = [tuple([a for a in every if told.is_marked(mark, a)]) for mark in range(len(shape.marks))]
    links = []
    for link in range(len(shape.links)):
        links.append(tuple([(a, b) for a in every for b in every if told.is_linked(link, a, b)]))
    return Structure(told.size, tuple(marks), tuple(links))


def _check_thing(shape, parts, value):
    if not _is_thing(shape, parts, value):
        raise InvalidRow("this is no thing of the shape and the parts")


def mark_holds(shape, parts, mark, thing):
    """Whether the mark of the whole holds of the thing."""
    _check(shape, parts)
    check_index(mark, len(shape.marks))
    _check_thing(shape, parts, thing)
    return _does_hold(shape.marks[mark], parts, [(member,) for member in thing])


def link_holds(shape, parts, link, thing, goal):
    """Whether the link of the whole holds of the thing and the goal."""
    _check(shape, parts)
    check_index(link, len(shape.links))
    _check_thing(shape, parts, thing)
    _check_thing(shape, parts, goal)
    return _does_hold(shape.links[link], parts, list(zip(thing, goal)))


def holds_in(shape, parts, formula):
    """Whether the closed formula about the whole holds in it, asked by the rules."""
    _check(shape, parts)
    check_whole_formula(shape, formula)
    check_rows_limit(parts)
    told = Things(shape, parts)
    if power(told.size, quantified(formula)) > MOST_TRIED:
        raise TooMany(MOST_TRIED)
    return StructureLevels(told, [()]).answers(formula)[0]


def check_whole_formula(shape, value):
    """Refuse what is no closed formula about the wholes of the shape."""
    if not is_well_formed(shape.whole_signature, 0, value):
        raise InvalidFormula("this is no closed formula for the signature of the whole")
