"""Readers: finite automata that read words, letter by letter."""

from wholebyparts.checks import are_indices, are_integers, check_number, is_between, is_index_tuple
from wholebyparts.errors import InvalidReader, InvalidWord, TooMany

MOST_LETTERS = 64
MOST_STATES = 512
MOST_WORD = 2000
MOST_LENGTH = 99
MOST_LISTED = 2000
MOST_TIMES = 10 ** 60 - 1
# A word so many times longer than a reader has steps is read by rows that are linked for it alone.
PAYS = 4


def reader_fault(letters, steps, accepting):
    """The first fault of the values as those of a reader, None without any."""
    if not is_between(letters, 1, MOST_LETTERS):
        return ("letters",)
    if not isinstance(steps, tuple) or not 1 <= len(steps) <= MOST_STATES:
        return ("steps",)
    for state, step in enumerate(steps):
        if not _is_step(letters, len(steps), step):
            return ("step", state)
    if not is_index_tuple(accepting, len(steps)):
        return ("accepting",)
    return None


def _is_step(letters, states, value):
    """Whether the value is a tuple of one state for each letter."""
    return isinstance(value, tuple) and len(value) == letters and are_indices(value, states)


class Reader:
    """A finite automaton: it begins in state 0, and takes a word if the last state accepts. It never changes."""

    def __init__(self, letters, steps, accepting):
        fault = reader_fault(letters, steps, accepting)
        if fault is not None:
            raise InvalidReader(f"a reader with the fault {fault}")
        self.letters = letters
        self.steps = steps
        self.accepting = accepting
        self.states = len(steps)

    def __eq__(self, other):
        if not isinstance(other, Reader):
            return False
        return self.letters == other.letters and self.steps == other.steps and self.accepting == other.accepting

    def __str__(self):
        return f"reader of {self.states} states over {self.letters} letters"


def check_reader(value):
    """Refuse what is no reader."""
    if not isinstance(value, Reader):
        raise InvalidReader("this is no reader")


def is_word(letters, value):
    """Whether the value is a word of so many letters."""
    if not _are_integers_of_word(value):
        return False
    told = sorted(set(value))
    return not told or (told[0] >= 0 and told[-1] < letters)


def check_word(letters, value):
    """Refuse what is no word of so many letters."""
    if not is_word(letters, value):
        raise InvalidWord(f"this is no word of {letters} letters")


def _are_integers_of_word(value):
    """Whether the value is a tuple of integers, as long as a word."""
    return isinstance(value, tuple) and len(value) <= MOST_WORD and are_integers(value)


def state_after(reader, word):
    """The state behind the word."""
    check_reader(reader)
    return _state_of_any(reader, word)


def _state_of_any(reader, value):
    """The state behind the value, which is refused unless it is a word."""
    if not isinstance(value, tuple) or len(value) < PAYS * reader.states * reader.letters:
        check_word(reader.letters, value)
        return state_from(reader, 0, value)
    if not _are_integers_of_word(value):
        raise InvalidWord("this is no tuple of integers, as long as a word")
    row = _linked_rows(reader)[0]
    try:
        for letter in value:
            row = row[letter]
    except KeyError:
        raise InvalidWord(f"the word has members that are none of {reader.letters} letters") from None
    return row[None]


def _linked_rows(reader):
    """For each state a dict that has for each letter the dict of the next state, for None the state itself.

    A word that is long beside the reader is read by these in one go, as what is no letter is met on the way.
    """
    rows = [{None: state} for state in range(reader.states)]
    for state, step in enumerate(reader.steps):
        for letter, goal in enumerate(step):
            rows[state][letter] = rows[goal]
    return rows


def state_from(reader, state, word):
    """The state to which the word leads from the state."""
    steps = reader.steps
    for letter in word:
        state = steps[state][letter]
    return state


def takes(reader, word):
    """Whether the word is taken."""
    return state_after(reader, word) in reader.accepting


def met(reader):
    """The ascending tuple of the states that are met."""
    check_reader(reader)
    return tuple(sorted(first_words(reader)))


def first_words(reader):
    """The first word that leads to each state that is met, in the sequence in which these are met."""
    found = {0: ()}
    waiting = [0]
    # Shorter words come first, of equally long ones the lesser, as each state is met breadth first.
    for _ in range(reader.states):
        nexts = []
        for state in waiting:
            for letter, goal in enumerate(reader.steps[state]):
                if goal not in found:
                    found[goal] = found[state] + (letter,)
                    nexts.append(goal)
        waiting = nexts
    return found


def first_word(reader):
    """The first word that is taken, None if there is none."""
    check_reader(reader)
    accepting = {state: True for state in reader.accepting}
    for state, word in first_words(reader).items():
        if state in accepting:
            return word
    return None


def _counts(reader, length):
    """For each length up to the told one: how many words of it lead from each state to an accepting one."""
    accepting = {state: True for state in reader.accepting}
    counts = [[1 if state in accepting else 0 for state in range(reader.states)]]
    for _ in range(length):
        last = counts[-1]
        counts.append([sum([last[goal] for goal in step]) for step in reader.steps])
    return counts


def word_count(reader, length):
    """How many words with so many letters are taken."""
    check_reader(reader)
    check_number(length, 0, MOST_LENGTH)
    return _counts(reader, length)[length][0]


def words(reader, length):
    """The ascending tuple of the words with so many letters that are taken."""
    check_reader(reader)
    check_number(length, 0, MOST_LENGTH)
    counts = _counts(reader, length)
    if counts[length][0] > MOST_LISTED:
        raise TooMany(MOST_LISTED)
    found = [((), 0)] if counts[length][0] > 0 else []
    for behind in range(length - 1, -1, -1):
        # What leads nowhere is left at once, so that there are never more beginnings than words.
        steps = [(word + (letter,), goal) for word, state in found for letter, goal in enumerate(reader.steps[state])]
        found = [(word, goal) for word, goal in steps if counts[behind][goal] > 0]
    return tuple([word for word, _ in found])


def after_times(reader, word, times):
    """The state behind the word, read so many times."""
    check_reader(reader)
    state = _state_of_any(reader, word)
    check_number(times, 0, MOST_TIMES)
    return at_time(times_met(reader, word, 0, times, state), times)


def times_met(reader, word, begin, times, once=None):
    """The states behind the word, read 0, 1, 2, .. times from a state on, until one comes again or all are told.

    The answer is their list, and the index in it of the one that comes again behind it, None if none does. The
    state behind the word, read once, can be handed in.
    """
    row = [begin]
    seen = {begin: 0}
    while len(row) <= times:
        state = state_from(reader, row[-1], word) if once is None else once
        once = None
        if state in seen:
            return (row, seen[state])
        seen[state] = len(row)
        row.append(state)
    return (row, None)


def at_time(told, times):
    """What comes at the time in a list that begins again at an index; if at none, the time is in the list."""
    row, first = told
    if times < len(row):
        return row[times]
    return row[first + (times - first) % (len(row) - first)]
