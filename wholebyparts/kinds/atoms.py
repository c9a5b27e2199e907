"""Atoms of rows: what holds of their members, and which of these are equal or none."""

from wholebyparts.checks import is_index_tuple, is_pair_tuple
from wholebyparts.part.rows import NONE


def atom_of(structure, row):
    """The atom of a row of the structure."""
    places = list(range(len(row)))
    pairs = [(i, j) for i in places for j in places]
    nones = [i for i in places if row[i] == NONE]
    same = [(i, j) for i, j in pairs if i < j and row[i] == row[j] and row[i] != NONE]
    marks = []
    for mark in range(len(structure.marks)):
        marks.append(tuple([i for i in places if structure.is_marked(mark, row[i])]))
    links = []
    for link in range(len(structure.links)):
        links.append(tuple([(i, j) for i, j in pairs if structure.is_linked(link, row[i], row[j])]))
    return (tuple(nones), tuple(same), tuple(marks), tuple(links))


def is_atom(signature, places, value):
    """Whether the value is by its form an atom of so many places."""
    if not isinstance(value, tuple) or len(value) != 4:
        return False
    nones, same, marks, links = value
    if not is_index_tuple(nones, places) or not is_pair_tuple(same, places):
        return False
    if not isinstance(marks, tuple) or not isinstance(links, tuple):
        return False
    if (len(marks), len(links)) != signature:
        return False
    if not all([is_index_tuple(mark, places) for mark in marks]):
        return False
    if not all([is_pair_tuple(link, places) for link in links]):
        return False
    return _has_classes(places, nones, same) and _fits_classes(places, value)


def _has_classes(places, nones, same):
    """Whether the pairs part the places that are not none into classes of equal ones."""
    for i, j in same:
        if i >= j or i in nones or j in nones:
            return False
        others = [k for k in range(places) if k not in (i, j)]
        if any([_is_same(same, i, k) != _is_same(same, j, k) for k in others]):
            return False
    return True


def _is_same(same, i, j):
    return (i, j) in same or (j, i) in same


def _fits_classes(places, atom):
    """Whether marks and links hold of no none, and alike of equal places."""
    nones, same, marks, links = atom
    for mark in marks:
        if any([i in nones for i in mark]) or any([(i in mark) != (j in mark) for i, j in same]):
            return False
    for link in links:
        if any([i in nones or j in nones for i, j in link]):
            return False
        for i, j in same:
            for k in range(places):
                if ((i, k) in link) != ((j, k) in link) or ((k, i) in link) != ((k, j) in link):
                    return False
    return True


def atom_tells(atom, node):
    """Whether a formula that is one atom holds at the rows that have the atom of a row."""
    nones, same, marks, links = atom
    word = node[0]
    if word == "none":
        return node[1] in nones
    if word == "mark":
        return node[2] in marks[node[1]]
    if word == "link":
        return (node[2], node[3]) in links[node[1]]
    if word == "same":
        low, high = sorted(node[1:])
        return low == high or (low, high) in same or (low in nones and high in nones)
    return True


def renumbered(atom, names):
    """The atom of the places that have names, by these, which keep the sequence."""
    nones, same, marks, links = atom
    return (
        _led_numbers(nones, names),
        _led_pairs(same, names),
        tuple([_led_numbers(mark, names) for mark in marks]),
        tuple([_led_pairs(link, names) for link in links]),
    )


def _led_numbers(numbers, names):
    return tuple([names[i] for i in numbers if i in names])


def _led_pairs(pairs, names):
    return tuple([(names[i], names[j]) for i, j in pairs if i in names and j in names])


def atom_without(atom, places, place):
    """The atom of so many places without one of them, later ones moving down."""
    names = {i: i if i < place else i - 1 for i in range(places) if i != place}
    return renumbered(atom, names)


def atom_with_none(atom, places, place):
    """The atom of so many places with one more, a none, ahead of the place; later ones move up."""
    names = {i: i if i < place else i + 1 for i in range(places)}
    nones, same, marks, links = renumbered(atom, names)
    return (tuple(sorted([*nones, place])), same, marks, links)
