"""Atoms of rows: what holds of their members, and which of these are equal or none."""

from wholebyparts.checks import are_integers, are_pairs
from wholebyparts.part.rows import NONE


def atom_of(structure, row):
    """The atom of a row of the structure, or of what tells its marks and links as a structure does."""
    places = list(range(len(row)))
    pairs = [(i, j) for i in places for j in places]
    nones = [i for i in places if row[i] == NONE]
    same = [(i, j) for i, j in pairs if i < j and row[i] == row[j] and row[i] != NONE]
    marks = []
    for mark in range(structure.signature[0]):
        marks.append(tuple([i for i in places if structure.is_marked(mark, row[i])]))
    links = []
    for link in range(structure.signature[1]):
        links.append(tuple([(i, j) for i, j in pairs if structure.is_linked(link, row[i], row[j])]))
    return (tuple(nones), tuple(same), tuple(marks), tuple(links))


def are_flat(values):
    """Whether all of the values are tuples of the form of atoms, whatever integers stand in them.

    This is asked ahead of all else, as what is looked up must not be too deep, nor True in the place of 1.
    """
    if [value for value in values if type(value) is not tuple or len(value) != 4]:
        return False
    if [part for value in values for part in value if type(part) is not tuple]:
        return False
    lots = [mark for value in values for mark in value[2]]
    links = [link for value in values for link in value[3]]
    if [lot for lot in lots + links if type(lot) is not tuple]:
        return False
    pairs = [pair for value in values for pair in value[1]] + [pair for link in links for pair in link]
    if not are_pairs(pairs):
        return False
    lots = lots + [value[0] for value in values] + pairs
    return are_integers([number for lot in lots for number in lot])


def is_atom(signature, places, value):
    """Whether a flat value is by its form an atom of so many places."""
    nones, same, marks, links = value
    if (len(marks), len(links)) != signature:
        return False
    if [lot for lot in (nones, *marks) if lot and not _is_ascending_to(lot, places)]:
        return False
    if [lot for lot in (same, *links) if lot and not _are_ascending_to(lot, places)]:
        return False
    if not nones and not same:
        return True
    return _has_classes(places, nones, same) and _fits_classes(value)


def _is_ascending_to(numbers, many):
    """Whether the numbers ascend, from 0 to less than the told one."""
    last = -1
    for number in numbers:
        if number <= last or number >= many:
            return False
        last = number
    return True


def _are_ascending_to(pairs, many):
    """Whether the pairs ascend, of numbers from 0 to less than the told one."""
    last = -1
    for first, second in pairs:
        told = first * many + second
        if told <= last or second < 0 or first >= many or second >= many:
            return False
        last = told
    return True


def _has_classes(places, nones, same):
    """Whether the pairs part the places that are not none into classes of equal ones."""
    equal = [1 << place for place in range(places)]
    for i, j in same:
        if i >= j or i in nones or j in nones:
            return False
        equal[i] = equal[i] | 1 << j
        equal[j] = equal[j] | 1 << i
    return not [i for i, j in same if equal[i] != equal[j]]


def _fits_classes(atom):
    """Whether marks and links hold of no none, and alike of equal places."""
    nones, same, marks, links = atom
    if nones:
        if [i for mark in marks for i in mark if i in nones]:
            return False
        if [pair for link in links for pair in link if pair[0] in nones or pair[1] in nones]:
            return False
    for i, j in same:
        if [mark for mark in marks if (i in mark) != (j in mark)]:
            return False
        for link in links:
            if [a for a, b in link if b == i] != [a for a, b in link if b == j]:
                return False
            if [b for a, b in link if a == i] != [b for a, b in link if a == j]:
                return False
    return True


def atom_tells(atom, node):
    """Whether a formula that is one atom holds at the rows that have the atom of a row."""
    nones, same, marks, links = atom
    word = node[0]
    if word == "none":
        return node[1] in nones
    if word == "mark":
        return node[2] in marks[node[1]]
    if word == "link":
        return (node[2], node[3]) in links[node[1]]
    if word == "same":
        low, high = sorted(node[1:])
        return low == high or (low, high) in same or (low in nones and high in nones)
    return True


def renumbered(atom, names):
    """The atom of the places that have names, by these, which keep the sequence."""
    nones, same, marks, links = atom
    return (
        _led_numbers(nones, names),
        _led_pairs(same, names),
        tuple([_led_numbers(mark, names) for mark in marks]),
        tuple([_led_pairs(link, names) for link in links]),
    )


def _led_numbers(numbers, names):
    return tuple([names[i] for i in numbers if i in names])


def _led_pairs(pairs, names):
    return tuple([(names[i], names[j]) for i, j in pairs if i in names and j in names])


def atom_ahead(atom, last):
    """The atom without the last place, which stands at the end wherever it does in the ascending tuples of places."""
    nones, same, marks, links = atom
    if nones and nones[-1] == last:
        # Nothing else is told of none.
        return (nones[:-1], same, marks, links)
    return (
        nones,
        tuple([pair for pair in same if pair[1] != last]) if same else same,
        tuple([mark[:-1] if mark and mark[-1] == last else mark for mark in marks]),
        tuple([tuple([(a, b) for a, b in link if a != last and b != last]) for link in links]),
    )


def atom_without(atom, places, place):
    """The atom of so many places without one of them, later ones moving down."""
    names = {i: i if i < place else i - 1 for i in range(places) if i != place}
    return renumbered(atom, names)


def atom_with_none(atom, places, place):
    """The atom of so many places with one more, a none, ahead of the place; later ones move up."""
    names = {i: i if i < place else i + 1 for i in range(places)}
    nones, same, marks, links = renumbered(atom, names)
    return (tuple(sorted([*nones, place])), same, marks, links)
