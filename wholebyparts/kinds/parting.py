"""Formulas that part kinds."""

from wholebyparts.checks import check_members
from wholebyparts.kinds.atoms import atom_tells
from wholebyparts.kinds.numbering import Numbering
from wholebyparts.kinds.pairs import check_alike, check_limits, check_rows, check_sides
from wholebyparts.kinds.trees import check_kind, cut_to, depth_told, is_last_none, some_members, with_none_ahead
from wholebyparts.part.structures import check_signature
from wholebyparts.say.formulas import NEVER, bounded, is_well_formed, joined, most_depth, quantified
from wholebyparts.say.levels import holds_at


def formula_of(signature, places, kind):
    """Any formula that holds at just the rows of the kind."""
    check_signature(signature)
    check_members(places)
    check_kind(signature, places, kind)
    if not _hangs_together(places, kind):
        return NEVER
    told = []
    for place in range(places):
        told.extend(_place_told(kind[0], place, False))
    return bounded(joined("and", told + _behind_told(places, kind)))


def _hangs_together(places, tree):
    """Whether the member with none last is the one that all else of the kind tells: no row has other kinds."""
    if not tree[1]:
        return True
    told = with_none_ahead(cut_to(tree, depth_told(tree) - 1), places, places)
    if [member for member in tree[1] if is_last_none(places, member)] != [told]:
        return False
    return all([_hangs_together(places + 1, member) for member in tree[1]])


def _place_told(atom, place, is_bound):
    """The nodes that tell what the atom says of the place, beside what is told of those ahead."""
    nones, same = atom[0], atom[1]
    if place in nones:
        return [("none", place)]
    equal = [i for i in range(place) if (i, place) in same]
    if equal:
        return [("same", equal[0], place)]
    # Of equal places the first one speaks for all.
    firsts = [i for i in range(place) if i not in nones and not [j for j in range(i) if (j, i) in same]]
    told = [] if is_bound else [("not", ("none", place))]
    told.extend([("not", ("same", i, place)) for i in firsts])
    nodes = [("mark", mark, place) for mark in range(len(atom[2]))]
    for link in range(len(atom[3])):
        nodes.extend([("link", link, i, place) for i in firsts])
        nodes.extend([("link", link, place, i) for i in [*firsts, place]])
    return told + [node if atom_tells(atom, node) else ("not", node) for node in nodes]


def _behind_told(places, tree):
    """The nodes that tell which members with an element last the kind has."""
    if not tree[1]:
        return []
    found = []
    for member in some_members(places, tree):
        told = _place_told(member[0], places, True) + _behind_told(places + 1, member)
        found.append(joined("and", told))
    return [("some", formula) for formula in found] + [("all", joined("or", found))]


def parting_answer(one, row, other, goal, depth):
    """Whether both rows have one kind of the depth; if not, any formula that parts them."""
    check_rows(one, row, other, goal, depth)
    check_limits(one, other, depth)
    numbering = Numbering(one, other)
    if numbering.is_one_kind(row, goal, depth):
        return ("alike",)
    return ("formula", bounded(parting_of(numbering, (0, row), (1, goal), depth)))


def parting_of(numbering, spot, goal, depth):
    """A formula of at most the depth that holds at the spot, and not at the goal: their kinds are unlike."""
    least = numbering.least_unlike(spot, goal, depth)
    if least == 0:
        return _node_parting(numbering.atom(spot), numbering.atom(goal), len(spot[1]))
    taken = numbering.lone_spot(spot, goal, least)
    if taken is None:
        return ("not", parting_of(numbering, goal, spot, least))
    parting = {}
    for longer in numbering.spots_behind(goal):
        number = numbering.number(longer, least - 1)
        if number not in parting:
            parting[number] = parting_of(numbering, taken, longer, least - 1)
    found = []
    for formula in parting.values():
        if formula not in found:
            found.append(formula)
    return ("some", joined("and", found))


def _node_parting(one, other, places):
    """A node, perhaps with "not", that the one atom tells, and the other atom does not."""
    unlike = [node for node in _nodes_about(one, places) if atom_tells(one, node) != atom_tells(other, node)]
    return unlike[0] if atom_tells(one, unlike[0]) else ("not", unlike[0])


def _nodes_about(atom, places):
    """The nodes by which atoms of so many places, like this one, can be unlike."""
    pairs = [(i, j) for i in range(places) for j in range(places)]
    nodes = [("none", i) for i in range(places)]
    nodes.extend([("same", i, j) for i, j in pairs if i < j])
    nodes.extend([("mark", mark, i) for mark in range(len(atom[2])) for i in range(places)])
    nodes.extend([("link", link, i, j) for link in range(len(atom[3])) for i, j in pairs])
    return nodes


def is_parting_answer(one, row, other, goal, depth, value):
    """Whether the value is an answer, with any formula."""
    check_rows(one, row, other, goal, depth)
    check_limits(one, other, depth)
    if not isinstance(value, tuple):
        return False
    if value == ("alike",):
        return Numbering(one, other).is_one_kind(row, goal, depth)
    if len(value) != 2 or value[0] != "formula":
        return False
    formula = value[1]
    if not is_well_formed(one.signature, len(row), formula) or quantified(formula) > depth:
        return False
    return holds_at(one, row, formula) and not holds_at(other, goal, formula)


def least_depth(one, row, other, goal):
    """The least depth at which the kinds are unlike, None if there is none."""
    check_sides(one, row, other, goal)
    check_alike(one, row, other, goal)
    numbering = Numbering(one, other)
    for depth in range(most_depth(len(row)) + 1):
        check_limits(one, other, depth)
        if not numbering.is_one_kind(row, goal, depth):
            return depth
    return None
