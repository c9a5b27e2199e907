"""Numbers in the place of kinds: kinds are large, and compared again and again."""

from wholebyparts.kinds.atoms import atom_of
from wholebyparts.kinds.codes import told_behind
from wholebyparts.part.rows import NONE


class Numbering:
    """The rows of two structures; rows of one kind of a depth have one number of the depth.

    A *spot* is a pair of a side, 0 for the one structure or 1 for the other one, and a row of it.
    """

    def __init__(self, one, other):
        self.sides = (one, other)
        self.is_one = other == one
        self.side_codes = (one.codes(), one.codes() if self.is_one else other.codes())
        self.numbers = {}
        self.known = {}

    def side_of(self, spot):
        """The side on which what is told of the spot is kept: of one structure twice it is told once."""
        return 0 if self.is_one else spot[0]

    def number(self, spot, depth):
        """The number of the row of the depth."""
        key = (self.side_of(spot), spot[1], depth)
        if key not in self.known:
            self.known[key] = self.reckoned(spot, depth)
        return self.known[key]

    def reckoned(self, spot, depth):
        """The number, reckoned out of those behind: what a none behind adds hangs on these alone."""
        side, row = spot
        if depth == 0:
            if not row:
                return 0
            told = NONE if row[-1] == NONE else self.keys_behind((side, row[:-1]), 0)[row[-1]]
            key = (0, self.number((side, row[:-1]), 0), told)
        else:
            key = (depth, self.number(spot, 0), tuple(sorted(set(self.keys_behind(spot, depth - 1)))))
        return self.numbers.setdefault(key, len(self.numbers) + 1)

    def keys_behind(self, spot, depth):
        """For each element behind the row a key: behind rows of one atom, keys are equal for one kind of the depth."""
        key = (self.side_of(spot), spot[1], depth, "keys")
        if key not in self.known:
            side, row = spot
            if depth == 0:
                ahead = self.keys_behind((side, row[:-1]), 0) if row else None
                told = told_behind(self.side_codes[side], row, ahead)
            else:
                told = [self.number(longer, depth) for longer in self.spots_behind(spot)]
            self.known[key] = told
        return self.known[key]

    def lots_behind(self, spot, depth):
        """For each key behind the row the ascending list of the elements that have it."""
        key = (self.side_of(spot), spot[1], depth, "lots")
        if key not in self.known:
            found = {}
            for member, one in enumerate(self.keys_behind(spot, depth)):
                found.setdefault(one, []).append(member)
            self.known[key] = found
        return self.known[key]

    def spots_behind(self, spot):
        """The spots of the rows with each element behind the row, ascending."""
        side, row = spot
        return [(side, row + (member,)) for member in range(self.sides[side].size)]

    def atom(self, spot):
        """The atom of the row."""
        side, row = spot
        return atom_of(self.sides[side], row)

    def is_alike(self, spot, goal, depth):
        """Whether both rows have one kind of the depth."""
        return self.number(spot, depth) == self.number(goal, depth)

    def is_one_kind(self, row, goal, depth):
        """Whether a row of the one and one of the other structure have one kind of the depth."""
        return self.is_alike((0, row), (1, goal), depth)

    def least_unlike(self, spot, goal, depth):
        """The least depth, up to the told one, at which the kinds are unlike, None if there is none."""
        for lesser in range(depth + 1):
            if not self.is_alike(spot, goal, lesser):
                return lesser
        return None

    def lone_spot(self, spot, goal, depth):
        """The first spot behind the row whose kind, one depth less, none behind the goal has; None without any.

        The row and the goal have equal atoms.
        """
        met = {key: True for key in self.keys_behind(goal, depth - 1)}
        for longer, key in zip(self.spots_behind(spot), self.keys_behind(spot, depth - 1)):
            if key not in met:
                return longer
        return None
