"""Kinds as they are built: of an atom, and of kinds of one place more."""

from wholebyparts.checks import ascending
from wholebyparts.errors import InvalidKind
from wholebyparts.kinds.atoms import atom_tells, atom_with_none, atom_without
from wholebyparts.kinds.codes import atom_by_codes
from wholebyparts.kinds.forms import has_form
from wholebyparts.kinds.numbering import Numbering
from wholebyparts.part.rows import NONE
from wholebyparts.say.formulas import most_depth
from wholebyparts.say.levels import RowLevels


class Trees:
    """The kinds of the rows of a structure: rows of one kind of a depth have one number, and the kind is made once."""

    def __init__(self, structure):
        self.structure = structure
        self.numbering = Numbering(structure, structure)
        self.known = {}

    def tree(self, row, depth):
        """The kind of the row of the depth."""
        key = (depth, self.numbering.number((0, row), depth))
        if key not in self.known:
            members = []
            if depth > 0:
                lots = self.numbering.lots_behind((0, row), depth - 1)
                behind = [row + (member,) for member in [NONE, *[lot[0] for lot in lots.values()]]]
                members = sorted([self.tree(longer, depth - 1) for longer in behind])
            atom = atom_by_codes(self.structure.codes(), self.structure.signature, row)
            self.known[key] = (atom, tuple(members))
        return self.known[key]


def kind_of(structure, row, depth):
    """The kind of the row of the depth."""
    return Trees(structure).tree(row, depth)


def depth_told(tree):
    """The depth of a kind."""
    depth = 0
    while tree[1]:
        tree = tree[1][0]
        depth += 1
    return depth


def is_last_none(places, member):
    """Whether a member of a kind of so many places has none at its last place."""
    return places in member[0][0]


def some_members(places, tree):
    """The members of a kind whose last place is an element."""
    return [member for member in tree[1] if not is_last_none(places, member)]


def check_kind(signature, places, value):
    """Refuse what is by its form no kind of so many places, of any depth."""
    for depth in range(most_depth(places) + 1):
        if has_form(signature, places, depth, value):
            return
    raise InvalidKind(f"this is by its form no kind of {places} places for the signature")


def cut_to(tree, depth):
    """The kind, cut to the depth."""
    if depth == 0:
        return (tree[0], ())
    return (tree[0], ascending([cut_to(member, depth - 1) for member in tree[1]]))


def with_place_out(tree, places, place):
    """The kind of so many places, without one of them."""
    members = [with_place_out(member, places + 1, place) for member in tree[1]]
    return (atom_without(tree[0], places, place), ascending(members))


def with_none_ahead(tree, places, place):
    """The kind of the row of so many places with a none ahead of the place."""
    members = [with_none_ahead(member, places + 1, place) for member in tree[1]]
    return (atom_with_none(tree[0], places, place), ascending(members))


class KindLevels(RowLevels):
    """Kinds as rows; quantifiers go over the members whose last place is an element."""

    def __init__(self, places, tree):
        super().__init__([(places, tree)])

    def longer(self, row):
        """The members of the kind with an element last."""
        places, tree = row
        return [(places + 1, member) for member in some_members(places, tree)]

    def tells(self, row, atom):
        """Whether the atom holds by the kind."""
        return atom_tells(row[1][0], atom)
