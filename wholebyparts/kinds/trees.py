"""Kinds as they are built: of an atom, and of kinds of one place more."""

from wholebyparts.checks import ascending, is_ascending
from wholebyparts.errors import InvalidKind
from wholebyparts.kinds.atoms import atom_of, atom_tells, atom_with_none, atom_without, is_atom
from wholebyparts.part.rows import NONE
from wholebyparts.say.formulas import most_depth
from wholebyparts.say.levels import RowLevels


def kind_of(structure, row, depth):
    """The kind of the row of the depth."""
    if depth == 0:
        return (atom_of(structure, row), ())
    behind = [row + (member,) for member in range(NONE, structure.size)]
    return (atom_of(structure, row), ascending([kind_of(structure, longer, depth - 1) for longer in behind]))


def depth_told(tree):
    """The depth of a kind."""
    depth = 0
    while tree[1]:
        tree = tree[1][0]
        depth += 1
    return depth


def has_form(signature, places, depth, value):
    """Whether the value is by its form a kind of so many places and of the depth."""
    if not isinstance(value, tuple) or len(value) != 2:
        return False
    atom, members = value
    if not is_atom(signature, places, atom) or not isinstance(members, tuple):
        return False
    if depth == 0:
        return len(members) == 0
    for member in members:
        if not has_form(signature, places + 1, depth - 1, member):
            return False
        if atom_without(member[0], places + 1, places) != atom:
            return False
    return is_ascending(members) and _has_right_lasts(places, atom, members)


def _has_right_lasts(places, atom, members):
    """Whether one member has none last, and for each place that is not none some member is equal to it there."""
    if len([member for member in members if is_last_none(places, member)]) != 1:
        return False
    for place in range(places):
        found = [member for member in members if (place, places) in member[0][1]]
        if place not in atom[0] and not found:
            return False
    return True


def is_last_none(places, member):
    """Whether a member of a kind of so many places has none at its last place."""
    return places in member[0][0]


def some_members(places, tree):
    """The members of a kind whose last place is an element."""
    return [member for member in tree[1] if not is_last_none(places, member)]


def check_kind(signature, places, value):
    """Refuse what is by its form no kind of so many places, of any depth."""
    for depth in range(most_depth(places) + 1):
        if has_form(signature, places, depth, value):
            return
    raise InvalidKind(f"this is by its form no kind of {places} places for the signature")


def cut_to(tree, depth):
    """The kind, cut to the depth."""
    if depth == 0:
        return (tree[0], ())
    return (tree[0], ascending([cut_to(member, depth - 1) for member in tree[1]]))


def with_place_out(tree, places, place):
    """The kind of so many places, without one of them."""
    members = [with_place_out(member, places + 1, place) for member in tree[1]]
    return (atom_without(tree[0], places, place), ascending(members))


def with_none_ahead(tree, places, place):
    """The kind of the row of so many places with a none ahead of the place."""
    members = [with_none_ahead(member, places + 1, place) for member in tree[1]]
    return (atom_with_none(tree[0], places, place), ascending(members))


class KindLevels(RowLevels):
    """Kinds as rows; quantifiers go over the members whose last place is an element."""

    def __init__(self, places, tree):
        super().__init__([(places, tree)])

    def longer(self, row):
        """The members of the kind with an element last."""
        places, tree = row
        return [(places + 1, member) for member in some_members(places, tree)]

    def tells(self, row, atom):
        """Whether the atom holds by the kind."""
        return atom_tells(row[1][0], atom)
