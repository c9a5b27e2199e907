"""Whether values are books of games: many pairs of rows at once, as a book has many."""

from itertools import chain

from wholebyparts.checks import MOST_MEMBERS, are_integers, are_pairs
from wholebyparts.kinds.codes import told_behind
from wholebyparts.part.rows import NONE

MOST_LEVELS = 4


def holds_book(one, other, value):
    """Whether the value is a book of one to four levels."""
    if not isinstance(value, tuple) or not 1 <= len(value) <= MOST_LEVELS:
        return False
    if not all([_has_rows(one, other, rounds, level) for rounds, level in enumerate(value)]):
        return False
    comparing = Comparing(one, other)
    above = ()
    for level in value[::-1]:
        # What is known of the pairs of a level helps with the longer ones below.
        comparing.add_equal(above)
        lots = comparing.lasts_of(level)
        if lots is None or not comparing.is_held(above, lots):
            return False
        above = level
    return True


def _has_rows(one, other, rounds, value):
    """Whether the value is an ascending tuple of pairs of a row of the one and one of the other, for so many rounds."""
    if not isinstance(value, tuple) or not are_pairs(value):
        return False
    most = MOST_MEMBERS - rounds
    parts = list(chain.from_iterable(value))
    if [row for row in parts if type(row) is not tuple or len(row) > most]:
        return False
    if not _have_members(one, parts[::2]) or not _have_members(other, parts[1::2]):
        return False
    return not [low for low, high in zip(value, value[1:]) if not low < high]


def _have_members(structure, rows):
    """Whether all members of the rows are elements of the structure, or none."""
    members = list(chain.from_iterable(rows))
    return are_integers(members) and (not members or (min(members) >= NONE and max(members) < structure.size))


class Comparing:
    """The rows of two structures side by side: whether atoms are equal.

    Many pairs of rows are alike but for their last members. What is told behind rows stands in lists, that of none
    last, as none is the index -1 of them.
    """

    def __init__(self, one, other):
        self.sizes = (one.size, other.size)
        is_one = other == one
        self.side_codes = (one.codes(), one.codes() if is_one else other.codes())
        lists = {}
        self.lists = (lists, lists if is_one else {})
        self.known = {((), ()): True}

    def told(self, side, row):
        """The list of what is told of each member behind the row."""
        if row not in self.lists[side]:
            ahead = self.told(side, row[:-1]) if row else None
            self.lists[side][row] = [*told_behind(self.side_codes[side], row, ahead), NONE]
        return self.lists[side][row]

    def add_equal(self, pairs):
        """The pairs are known to have equal atoms."""
        for pair in pairs:
            self.known[pair] = True

    def is_equal(self, pair):
        """Whether both rows, equally long, have equal atoms."""
        if pair not in self.known:
            row, goal = pair
            ahead, others = row[:-1], goal[:-1]
            is_kept = self.is_equal((ahead, others))
            self.known[pair] = is_kept and self.told(0, ahead)[row[-1]] == self.told(1, others)[goal[-1]]
        return self.known[pair]

    def lasts_of(self, level):
        """For each pair of beginnings the pairs of last members behind it; None unless all atoms are equal."""
        found = {}
        for row, goal in level:
            if len(row) != len(goal):
                return None
            if row:
                found.setdefault((row[:-1], goal[:-1]), []).append((row[-1], goal[-1]))
        for pair, lasts in found.items():
            if not self.is_equal(pair):
                return None
            told, others = self.told(0, pair[0]), self.told(1, pair[1])
            if [member for member, answer in lasts if told[member] != others[answer]]:
                return None
        return found

    def is_held(self, level, lots):
        """Whether for each pair of the level, and each element behind, there is a reply among the lots."""
        for pair in level:
            lasts = lots.get(pair, [])
            if len({member for member, _ in lasts if member != NONE}) < self.sizes[0]:
                return False
            if len({answer for _, answer in lasts if answer != NONE}) < self.sizes[1]:
                return False
        return True
