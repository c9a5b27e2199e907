"""Whether values are by their form kinds: many of them at once, as a kind has many members."""

from wholebyparts.checks import MOST_MEMBERS, is_ascending
from wholebyparts.kinds.atoms import are_flat, atom_ahead, is_atom


def has_form(signature, places, depth, value):
    """Whether the value is by its form a kind of so many places and of the depth."""
    return Forms(signature).told(places, depth, (value,)) is not None


class Forms:
    """What is known of atoms, by the number of places: few of them stand in a kind, each of them often.

    Of an atom that is one by its form is known: the atom without the last place, whether none is there, and as bits
    the places ahead that are equal to it, and all places that are not none; of another value just None.
    """

    def __init__(self, signature):
        self.signature = signature
        self.known = [{} for _ in range(MOST_MEMBERS + 1)]

    def told(self, places, depth, values):
        """What is known of the atoms of the values, None unless all of them are kinds of the places and the depth."""
        if [value for value in values if type(value) is not tuple or len(value) != 2 or type(value[1]) is not tuple]:
            return None
        if not are_flat([atom for atom, _ in values]):
            return None
        if depth == 0 and [members for _, members in values if members]:
            return None
        known = self.known[places]
        found = []
        for atom, _ in values:
            if atom not in known:
                known[atom] = self.reckoned(places, atom)
            found.append(known[atom])
        if None in found:
            return None
        if depth > 0:
            for (atom, members), told in zip(values, found):
                if not self.has_members(places, depth, atom, members, told[3]):
                    return None
        return found

    def has_members(self, places, depth, atom, members, elsewhere):
        """Whether a kind of the depth with the atom, and with elements at the told places, can have these members."""
        found = self.told(places + 1, depth - 1, members)
        if found is None or not is_ascending(members):
            return False
        nones, equal = 0, 0
        for ahead, is_none, bits, _ in found:
            if ahead != atom:
                return False
            if is_none:
                nones += 1
            equal = equal | bits
        # Just one has none last, and for each place that is not none some has an equal one last.
        return nones == 1 and equal == elsewhere

    def reckoned(self, places, atom):
        """What is told of a flat tuple of the form of an atom, None if it is none."""
        if not is_atom(self.signature, places, atom):
            return None
        last = places - 1
        equal, elsewhere = 0, (1 << places) - 1
        for i, j in atom[1]:
            if j == last:
                equal = equal | 1 << i
        for place in atom[0]:
            elsewhere = elsewhere ^ 1 << place
        return (atom_ahead(atom, last), last in atom[0], equal, elsewhere)
