"""Numbers in the place of kinds: kinds are large, and compared again and again."""

from wholebyparts.kinds.atoms import atom_of


class Numbering:
    """The rows of two structures; rows of one kind of a depth have one number of the depth.

    A *spot* is a pair of a side, 0 for the one structure or 1 for the other one, and a row of it.
    """

    def __init__(self, one, other):
        self.sides = (one, other)
        self.numbers = {}
        self.known = {}

    def number(self, spot, depth):
        """The number of the row of the depth."""
        if (spot, depth) not in self.known:
            self.known[(spot, depth)] = self.reckoned(spot, depth)
        return self.known[(spot, depth)]

    def reckoned(self, spot, depth):
        """The number, reckoned out of those behind: what a none behind adds hangs on these alone."""
        behind = ()
        if depth > 0:
            behind = tuple(sorted({self.number(longer, depth - 1) for longer in self.spots_behind(spot)}))
        side, row = spot
        key = (depth, atom_of(self.sides[side], row), behind)
        return self.numbers.setdefault(key, len(self.numbers))

    def spots_behind(self, spot):
        """The spots of the rows with each element behind the row, ascending."""
        side, row = spot
        return [(side, row + (member,)) for member in range(self.sides[side].size)]

    def atom(self, spot):
        """The atom of the row."""
        side, row = spot
        return atom_of(self.sides[side], row)

    def is_alike(self, spot, goal, depth):
        """Whether both rows have one kind of the depth."""
        return self.number(spot, depth) == self.number(goal, depth)

    def is_one_kind(self, row, goal, depth):
        """Whether a row of the one and one of the other structure have one kind of the depth."""
        return self.is_alike((0, row), (1, goal), depth)

    def least_unlike(self, spot, goal, depth):
        """The least depth, up to the told one, at which the kinds are unlike, None if there is none."""
        for lesser in range(depth + 1):
            if not self.is_alike(spot, goal, lesser):
                return lesser
        return None

    def lone_spot(self, spot, goal, depth):
        """The first spot behind the row whose kind, one depth less, none behind the goal has; None without any."""
        met = {self.number(longer, depth - 1): True for longer in self.spots_behind(goal)}
        for longer in self.spots_behind(spot):
            if self.number(longer, depth - 1) not in met:
                return longer
        return None
