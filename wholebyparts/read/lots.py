"""Lots of alike states: parted by acceptance, then by the lots to which letters lead (many: Hopcroft's way)."""

from wholebyparts.errors import TooMany


# Of so many states all that leads on from them is soon compared.
FEW_STATES = 16


class Parting:
    """States in lots, which are parted as long as some letter leads alike states to unlike ones.

    Columns have for each letter the next state of each state. Of both halves of a lot just the lesser one must still
    be asked who leads into it, if the whole lot has been.
    """

    def __init__(self, columns, accepting):
        self.sources = [_sources(column) for column in columns]
        self.where = numbered(accepting)[0]
        self.lots = [{} for _ in range(max(self.where) + 1)]
        for state, lot in enumerate(self.where):
            self.lots[lot][state] = True
        # Of two lots the lesser one is asked; one lot alone is not parted.
        sizes = [len(lot) for lot in self.lots]
        self.waiting = [sizes.index(min(sizes))] if len(sizes) > 1 else []
        self.is_waiting = [lot in self.waiting for lot in range(len(sizes))]

    def part(self, most):
        """Part until nothing is parted any more; TooMany for more lots than the most."""
        while self.waiting:
            lot = self.waiting.pop()
            self.is_waiting[lot] = False
            goals = list(self.lots[lot])
            for sources in self.sources:
                self.part_by(goals, sources)
                if most is not None and len(self.lots) > most:
                    raise TooMany(most)

    def part_by(self, goals, sources):
        """Part each lot into what leads to the goals and the rest."""
        found = {}
        for goal in goals:
            for state in sources.get(goal, ()):
                found.setdefault(self.where[state], []).append(state)
        for lot, states in found.items():
            if len(states) < len(self.lots[lot]):
                self.take_out(lot, states)

    def take_out(self, lot, states):
        """Take the states out of the lot into one of their own."""
        new = len(self.lots)
        old = self.lots[lot]
        for state in states:
            del old[state]
            self.where[state] = new
        self.lots.append({state: True for state in states})
        self.is_waiting.append(False)
        told = new if self.is_waiting[lot] or len(states) <= len(old) else lot
        self.waiting.append(told)
        self.is_waiting[told] = True


def numbered(keys):
    """For each key a number, the same for equal ones, in the sequence in which they come; and each key once."""
    found = {}
    for key in keys:
        if key not in found:
            found[key] = len(found)
    return ([found[key] for key in keys], list(found))


def _sources(column):
    """For each state to which the letter leads, the list of those from which it does."""
    found = {}
    for state, goal in enumerate(column):
        found.setdefault(goal, []).append(state)
    return found


def lots_of(columns, accepting, most):
    """The lot of alike states of each state, numbered in the sequence in which they come; TooMany for too many."""
    if len(accepting) <= FEW_STATES:
        lots, many = _few_lots(columns, accepting)
        if most is not None and many > most:
            raise TooMany(most)
        return lots
    parting = Parting(columns, accepting)
    parting.part(most)
    return numbered(parting.where)[0]


def _few_lots(columns, accepting):
    """The lots of few states, and how many there are: all are parted at once, as long as there come more."""
    lots, found = numbered(accepting)
    many = 0
    while many < len(found) < len(accepting):
        many = len(found)
        rows = [[lots[goal] for goal in column] for column in columns]
        lots, found = numbered(list(zip(lots, *rows)))
    return (lots, len(found))
