"""Structures: so many elements, marks and links; maps between them, and what is made of them."""

from wholebyparts.checks import check_index, is_between, is_index_tuple, is_order, is_pair_tuple
from wholebyparts.errors import InvalidNumber, InvalidOperation, InvalidStructure, TooMany

MOST_SIZE = 60
MOST_RELATIONS = 2
MOST_TRIED = 8


def structure_fault(size, marks, links):
    """The first fault of the values as the parts of a structure, None without any."""
    if not is_between(size, 0, MOST_SIZE):
        return ("size",)
    if not _is_short_tuple(marks):
        return ("marks",)
    if not _is_short_tuple(links):
        return ("links",)
    for index, mark in enumerate(marks):
        if not is_index_tuple(mark, size):
            return ("mark", index)
    for index, link in enumerate(links):
        if not is_pair_tuple(link, size):
            return ("link", index)
    return None


def _is_short_tuple(value):
    return isinstance(value, tuple) and len(value) <= MOST_RELATIONS


class Structure:
    """So many elements; marks hold of some of them, links of some pairs. It never changes."""

    def __init__(self, size, marks, links):
        fault = structure_fault(size, marks, links)
        if fault is not None:
            raise InvalidStructure(f"a structure with the fault {fault}")
        self.size = size
        self.marks = marks
        self.links = links
        self.signature = (len(marks), len(links))
        # Asked far more often than a search through the tuples would allow.
        self._marked = [{member: True for member in mark} for mark in marks]
        self._linked = [{pair: True for pair in link} for link in links]
        self._lines = {}
        self._codes = None

    def __eq__(self, other):
        if not isinstance(other, Structure):
            return False
        return self.size == other.size and self.marks == other.marks and self.links == other.links

    def __str__(self):
        return f"structure of {self.size} elements, {len(self.marks)} marks, {len(self.links)} links"

    def is_marked(self, mark, member):
        """Whether the mark holds of the member of a row; it never holds of none."""
        return member in self._marked[mark]

    def is_linked(self, link, member, goal):
        """Whether the link holds of both members of a row; it never holds of none."""
        return (member, goal) in self._linked[link]

    def mark_bits(self, mark):
        """For each element 1 or 0, as a string: whether the mark holds of it."""
        return "".join(["1" if member in self._marked[mark] else "0" for member in range(self.size)])

    def loop_bits(self, link):
        """For each element 1 or 0, as a string: whether the link holds of it and itself."""
        return "".join(["1" if (member, member) in self._linked[link] else "0" for member in range(self.size)])

    def link_bits(self, link, member, is_turned):
        """For each element 1 or 0: whether the link holds of the member and it; if turned, of it and the member."""
        if (link, is_turned) not in self._lines:
            rows = [["0"] * self.size for _ in range(self.size)]
            for a, b in self.links[link]:
                if is_turned:
                    rows[b][a] = "1"
                else:
                    rows[a][b] = "1"
            self._lines[(link, is_turned)] = ["".join(row) for row in rows]
        return self._lines[(link, is_turned)][member]


    def codes(self):
        """What the marks and links tell of each element, and of each two: equal codes tell alike.

        The second list has for a member a list of one code for each element; its last list is that of none, which
        is the index -1 of it.
        """
        if self._codes is None:
            singles = [0] * self.size
            pairs = [[0] * self.size for _ in range(self.size + 1)]
            for member in range(self.size):
                pairs[member][member] = 1
            for index, mark in enumerate(self.marks):
                for member in mark:
                    singles[member] += 1 << index
            for index, link in enumerate(self.links):
                for a, b in link:
                    pairs[a][b] += 2 << 2 * index
                    pairs[b][a] += 4 << 2 * index
                    if a == b:
                        singles[a] += 4 << index
            self._codes = (singles, pairs)
        return self._codes


def is_signature(value):
    """Whether the value is a signature: how many marks and links there are."""
    if not isinstance(value, tuple) or len(value) != 2:
        return False
    return all([is_between(member, 0, MOST_RELATIONS) for member in value])


def check_signature(value):
    """Refuse what is no signature."""
    if not is_signature(value):
        raise InvalidNumber(value)


def check_structure(value):
    """Refuse what is no structure."""
    if not isinstance(value, Structure):
        raise InvalidStructure("this is no structure")


def is_map(one, other, value):
    """Whether the value is a map from the first structure to the second."""
    check_structure(one)
    check_structure(other)
    return is_order(value, one.size) and renamed(one, value) == other


def map_between(one, other):
    """Any map, here the least one; None if there is none."""
    check_structure(one)
    check_structure(other)
    if max(one.size, other.size) > MOST_TRIED:
        raise TooMany(MOST_TRIED)
    if one.signature != other.signature:
        return None
    profiles = [_profile(one, member) for member in range(one.size)]
    goals = [_profile(other, member) for member in range(other.size)]
    # Without this, marks alone could make the search try all sequences.
    if sorted(profiles) != sorted(goals):
        return None
    return _map_from(one, other, ())


def _profile(structure, member):
    """What each map keeps of an element: its marks, and how often it stands where in each link."""
    told = [structure.is_marked(mark, member) for mark in range(len(structure.marks))]
    for link in structure.links:
        told.append((member, member) in link)
        told.append(len([pair for pair in link if pair[0] == member]))
        told.append(len([pair for pair in link if pair[1] == member]))
    return told


def _map_from(one, other, led):
    """The least map that begins with the elements led to, None if there is none."""
    if len(led) == one.size:
        return led
    for goal in range(other.size):
        longer = led + (goal,)
        if goal not in led and _leads_last(one, other, longer):
            found = _map_from(one, other, longer)
            if found is not None:
                return found
    return None


def _leads_last(one, other, led):
    """Whether the last element is led rightly beside those ahead of it."""
    last = len(led) - 1
    for mark in range(len(one.marks)):
        if one.is_marked(mark, last) != other.is_marked(mark, led[last]):
            return False
    for link in range(len(one.links)):
        for member, goal in enumerate(led):
            if one.is_linked(link, last, member) != other.is_linked(link, led[last], goal):
                return False
            if one.is_linked(link, member, last) != other.is_linked(link, goal, led[last]):
                return False
    return True


def renamed(structure, names):
    """The structure whose element names[i] is what i was."""
    check_structure(structure)
    if not is_order(names, structure.size):
        raise InvalidOperation("the names do not name each element once")
    marks = [tuple(sorted([names[member] for member in mark])) for mark in structure.marks]
    links = [tuple(sorted([(names[a], names[b]) for a, b in link])) for link in structure.links]
    return Structure(structure.size, tuple(marks), tuple(links))


def induced(structure, lot):
    """What the elements of the lot induce, numbered anew in their sequence."""
    check_structure(structure)
    if not is_index_tuple(lot, structure.size):
        raise InvalidOperation("the lot is no ascending tuple of elements")
    names = {member: name for name, member in enumerate(lot)}
    marks = [tuple([names[member] for member in mark if member in names]) for mark in structure.marks]
    links = [tuple([(names[a], names[b]) for a, b in link if a in names and b in names]) for link in structure.links]
    return Structure(len(lot), tuple(marks), tuple(links))


def without(structure, mark):
    """The structure without the mark."""
    check_structure(structure)
    check_index(mark, len(structure.marks))
    marks = structure.marks[:mark] + structure.marks[mark + 1:]
    return Structure(structure.size, marks, structure.links)


def turned(structure, link):
    """The structure with the link turned."""
    check_structure(structure)
    check_index(link, len(structure.links))
    pairs = tuple(sorted([(b, a) for a, b in structure.links[link]]))
    return _with_link(structure, link, pairs)


def complemented(structure, link):
    """The structure whose link holds of just those pairs of which it did not."""
    check_structure(structure)
    check_index(link, len(structure.links))
    size = structure.size
    pairs = [(a, b) for a in range(size) for b in range(size) if not structure.is_linked(link, a, b)]
    return _with_link(structure, link, tuple(pairs))


def _with_link(structure, link, pairs):
    links = structure.links[:link] + (pairs,) + structure.links[link + 1:]
    return Structure(structure.size, structure.marks, links)
