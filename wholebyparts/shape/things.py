"""The things of a shape and of parts, and what the rules tell of them."""

from wholebyparts.part.rows import NONE
from wholebyparts.say.levels import joined_answers
from wholebyparts.shape.letters import pair_letters, single_letters

MOST_PAIRED = 64


def things_of(shape, parts):
    """The ascending list of the things."""
    rule = shape.domain
    tables = [single_letters(rule, part) for part in parts]
    steps = rule[1].steps
    hopeful = _hopeful(rule[1], tables)
    found = [((), 0)] if 0 in hopeful[0] else []
    for part, table, goals in zip(parts, tables, hopeful[1:]):
        longer = []
        for row, state in found:
            step = steps[state]
            for member in range(NONE, part.size):
                if step[table[member]] in goals:
                    longer.append((row + (member,), step[table[member]]))
        found = longer
    return [row for row, _ in found]


def _hopeful(reader, tables):
    """For each number of parts the states behind them from which the rest can lead to an accepting one.

    What leads nowhere is left at once, so that there are never more beginnings than things.
    """
    told = [{state: True for state in reader.accepting}]
    for table in tables[::-1]:
        last = told[-1]
        letters = sorted(set(table))
        told.append({state: True for state, step in enumerate(reader.steps) if [x for x in letters if step[x] in last]})
    return told[::-1]


class Things:
    """The whole, not put together: its elements are the indices of the things, asked as those of a structure are."""

    def __init__(self, shape, parts):
        self.shape = shape
        self.parts = parts
        self.signature = shape.whole_signature
        self.things = things_of(shape, parts)
        self.size = len(self.things)
        self.tables = {}

    def tables_of(self, word, index):
        """For each part the letters of the rule of the mark or the link, by the members."""
        if (word, index) not in self.tables:
            if word == "mark":
                told = [single_letters(self.shape.marks[index], part) for part in self.parts]
            else:
                told = [pair_letters(self.shape.links[index], part) for part in self.parts]
            self.tables[(word, index)] = told
        return self.tables[(word, index)]

    def is_marked(self, mark, member):
        """Whether the mark holds of the thing with the index."""
        reader = self.shape.marks[mark][1]
        state = 0
        for table, told in zip(self.tables_of("mark", mark), self.things[member]):
            state = reader.steps[state][table[told]]
        return state in reader.accepting

    def is_linked(self, link, member, goal):
        """Whether the link holds of the things with the indices."""
        reader = self.shape.links[link][1]
        state = 0
        for table, first, second in zip(self.tables_of("link", link), self.things[member], self.things[goal]):
            state = reader.steps[state][table[first][second]]
        return state in reader.accepting

    def mark_bits(self, mark):
        """For each thing 1 or 0, as a string: whether the mark holds of it."""
        return joined_answers([self.is_marked(mark, member) for member in range(self.size)])

    def loop_bits(self, link):
        """For each thing 1 or 0, as a string: whether the link holds of it and itself."""
        return joined_answers([self.is_linked(link, member, member) for member in range(self.size)])

    def link_bits(self, link, member, is_turned):
        """For each thing 1 or 0: whether the link holds of the member and it; if turned, of it and the member."""
        if is_turned:
            return joined_answers([self.is_linked(link, goal, member) for goal in range(self.size)])
        return joined_answers([self.is_linked(link, member, goal) for goal in range(self.size)])

    def codes(self):
        """What the marks and links tell of each thing, and of each two, as `Structure.codes` does for elements.

        Nobody asks for two of very many things.
        """
        singles = [0] * self.size
        for member in range(self.size):
            for mark in range(self.signature[0]):
                singles[member] += self.is_marked(mark, member) << mark
            for link in range(self.signature[1]):
                singles[member] += self.is_linked(link, member, member) << 2 + link
        if self.size > MOST_PAIRED:
            return (singles, [])
        every = range(self.size)
        pairs = [[1 if a == b else 0 for b in every] for a in every]
        for link in range(self.signature[1]):
            for a in every:
                for b in every:
                    if self.is_linked(link, a, b):
                        pairs[a][b] += 2 << 2 * link
                        pairs[b][a] += 4 << 2 * link
        return (singles, [*pairs, [0] * self.size])
