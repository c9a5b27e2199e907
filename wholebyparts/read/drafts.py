"""Readers in the making: with as many states as it takes, and letters that lead alike taken together."""

from wholebyparts.errors import TooMany
from wholebyparts.read.lots import lots_of, numbered
from wholebyparts.read.readers import MOST_STATES, Reader

# So many pairs, or sets, of states are met before this is too much, where it can be.
MOST_MET = 2000
# In the place of a pair of states from which no word is taken.
LOST = -1


class Draft:
    """A reader in the making.

    Letters of one look lead each state alike: `looks` has the look of each letter, `steps` for each state a tuple
    of the next state for each look, `accepting` whether each state accepts. All states are met, and both they and
    the looks are numbered in the sequence in which they are met, letters ascending.
    """

    def __init__(self, looks, steps, accepting):
        self.looks = looks
        self.steps = steps
        self.accepting = accepting


def explored(looks, begin, follow, accepts, limit=None):
    """The draft of all things that are met from the beginning on.

    `follow` tells for a thing those to which the looks lead, `accepts` whether it accepts. With a limit, TooMany of
    it comes if too many are met.
    """
    found = {begin: 0}
    waiting = [begin]
    steps = []
    while len(steps) < len(waiting):
        goals = follow(waiting[len(steps)])
        for goal in goals:
            if goal not in found:
                found[goal] = len(waiting)
                waiting.append(goal)
        steps.append(tuple([found[goal] for goal in goals]))
        if limit is not None and len(waiting) > MOST_MET:
            raise TooMany(limit)
    return Draft(looks, steps, [accepts(thing) for thing in waiting])


def sink_of(draft, is_accepting):
    """The state of a least draft from which every word is taken, or none is; LOST without one."""
    for state, step in enumerate(draft.steps):
        if draft.accepting[state] == is_accepting and step.count(state) == len(step):
            return state
    return LOST


def both_draft(one, other, limit=None):
    """The draft of what both least drafts take; with a limit, TooMany of it for too many pairs of states."""
    looks, kept = numbered(list(zip(one.looks, other.looks)))
    base = len(other.steps)
    # Pairs are met as one number each, and those with a lost state all as one.
    sinks = (sink_of(one, False), sink_of(other, False))
    firsts = _goals(one, [look for look, _ in kept], sinks[0], base)
    seconds = _goals(other, [look for _, look in kept], sinks[1], 1)
    lost = [LOST] * len(kept)

    def follow(pair):
        if pair == LOST:
            return lost
        return [a + b if a >= 0 and b >= 0 else LOST for a, b in zip(firsts[pair // base], seconds[pair % base])]

    def accepts(pair):
        return pair != LOST and one.accepting[pair // base] and other.accepting[pair % base]

    return explored(looks, LOST if 0 in sinks else 0, follow, accepts, limit)


def all_draft(drafts):
    """The draft of what all of the least drafts take: for a few small ones, as there is no limit."""
    every = [draft.looks for draft in drafts]
    looks, kept = numbered(list(zip(*every)))
    sinks = [sink_of(draft, False) for draft in drafts]
    goals = [_goals(draft, told, lost, 1) for draft, told, lost in zip(drafts, list(zip(*kept)), sinks)]
    accepting = [draft.accepting for draft in drafts]
    lost = [LOST] * len(kept)

    def follow(states):
        if states == LOST:
            return lost
        rows = [table[state] for table, state in zip(goals, states)]
        return [LOST if LOST in one else one for one in zip(*rows)]

    def accepts(states):
        return states != LOST and all([table[state] for table, state in zip(accepting, states)])

    return explored(looks, LOST if 0 in sinks else (0,) * len(drafts), follow, accepts)


def _goals(draft, looks, lost, times):
    """For each state the next ones by the looks, so many times as large; LOST for the one that is."""
    if lost == LOST:
        return [[step[look] * times for look in looks] for step in draft.steps]
    return [[LOST if step[look] == lost else step[look] * times for look in looks] for step in draft.steps]


def opposite_draft(draft):
    """The draft of what the draft does not take."""
    return Draft(draft.looks, draft.steps, [not accepts for accepts in draft.accepting])


def either_draft(one, other, limit=None):
    """The draft of what at least one least draft takes; TooMany as for both."""
    return opposite_draft(both_draft(opposite_draft(one), opposite_draft(other), limit))


def led_draft(draft, table):
    """The draft that reads each letter as the one in the table."""
    looks, kept = numbered([draft.looks[letter] for letter in table])
    return explored(
        looks, 0,
        lambda state: [draft.steps[state][look] for look in kept],
        lambda state: draft.accepting[state],
    )


def guessed_draft(draft, lots, limit):
    """The draft that takes a word if some reading of it is taken; TooMany of the limit for too many sets of states."""
    looks, kept = numbered([tuple(sorted({draft.looks[letter] for letter in lot})) for lot in lots])
    return guessed_looks(draft, looks, kept, limit)


def guessed_looks(draft, looks, kept, limit):
    """The draft of these looks that reads each of them as any of the kept ones of it, which are looks of the draft.

    A set of states is a number with a bit for each: without the state from which nothing is taken, and with no
    other one beside that from which all is.
    """
    sink = sink_of(draft, True)
    bits = [1 << state for state in range(len(draft.steps))]
    lost = sink_of(draft, False)
    if lost != LOST:
        bits[lost] = 0
    rows = []
    for step in draft.steps:
        told = [bits[goal] for goal in step]
        rows.append([joined_bits([told[look] for look in lot]) for lot in kept])
    accepting = joined_bits([bit for bit, accepts in zip(bits, draft.accepting) if accepts])
    whole = 0 if sink == LOST else bits[sink]

    def follow(states):
        return [whole if goals & whole else goals for goals in joined_rows(rows, states, len(kept))]

    return explored(looks, bits[0], follow, lambda states: states & accepting > 0, limit)


def joined_bits(numbers):
    """The number with all bits of the numbers."""
    told = 0
    for number in numbers:
        told = told | number
    return told


def joined_rows(rows, states, many):
    """Place by place all bits of the rows, each so long, of the states whose bits the number has."""
    told = [0] * many
    while states:
        state = states.bit_length() - 1
        told = [one | other for one, other in zip(told, rows[state])]
        states = states ^ (1 << state)
    return told


def least_draft(draft, most=None):
    """The least draft that takes the same; TooMany if it has more states than the most."""
    looks, columns = numbered(list(zip(*draft.steps)))
    lots = lots_of(columns, draft.accepting, most)
    if max(lots) + 1 == len(lots):
        if len(columns) == len(looks):
            return draft
        return Draft([looks[look] for look in draft.looks], list(zip(*columns)), draft.accepting)
    found = {}
    for state, lot in enumerate(lots):
        found.setdefault(lot, state)
    firsts = list(found.values())
    # Letters that led to unlike states that are now one are of one look now.
    merged, kept = numbered([tuple([lots[column[state]] for state in firsts]) for column in columns])
    told = [merged[looks[look]] for look in draft.looks]
    return Draft(told, list(zip(*kept)), [draft.accepting[state] for state in firsts])


def draft_of(reader):
    """The least draft that takes what the reader does."""
    accepting = {state: True for state in reader.accepting}
    looks, columns = numbered(list(zip(*reader.steps)))
    draft = explored(
        looks, 0,
        lambda state: [column[state] for column in columns],
        lambda state: state in accepting,
    )
    return least_draft(draft)


def is_one_draft(one, other):
    """Whether two least drafts take the same: then they are written alike, too."""
    return one.looks == other.looks and one.steps == other.steps and one.accepting == other.accepting


def reader_from(draft):
    """The reader that a least draft tells: TooMany for more states than a reader has."""
    if len(draft.steps) > MOST_STATES:
        raise TooMany(MOST_STATES)
    steps = [tuple([step[look] for look in draft.looks]) for step in draft.steps]
    accepting = [state for state, accepts in enumerate(draft.accepting) if accepts]
    return Reader(len(draft.looks), tuple(steps), tuple(accepting))


def told_reader(draft):
    """The least reader that takes what the draft does: TooMany for more states than a reader has."""
    return reader_from(least_draft(draft, MOST_STATES))
