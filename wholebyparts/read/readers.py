"""Readers: finite automata that read words, letter by letter."""

from wholebyparts.checks import check_number, is_between, is_index_tuple, is_index
from wholebyparts.errors import InvalidReader, InvalidWord, TooMany

MOST_LETTERS = 64
MOST_STATES = 512
MOST_WORD = 2000
MOST_LENGTH = 99
MOST_LISTED = 2000
MOST_TIMES = 10 ** 60 - 1


def reader_fault(letters, steps, accepting):
    """The first fault of the values as those of a reader, None without any."""
    if not is_between(letters, 1, MOST_LETTERS):
        return ("letters",)
    if not isinstance(steps, tuple) or not 1 <= len(steps) <= MOST_STATES:
        return ("steps",)
    for state, step in enumerate(steps):
        if not _is_step(letters, len(steps), step):
            return ("step", state)
    if not is_index_tuple(accepting, len(steps)):
        return ("accepting",)
    return None


def _is_step(letters, states, value):
    """Whether the value is a tuple of one state for each letter."""
    if not isinstance(value, tuple) or len(value) != letters:
        return False
    return all([is_index(goal, states) for goal in value])


class Reader:
    """A finite automaton: it begins in state 0, and takes a word if the last state accepts. It never changes."""

    def __init__(self, letters, steps, accepting):
        fault = reader_fault(letters, steps, accepting)
        if fault is not None:
            raise InvalidReader(f"a reader with the fault {fault}")
        self.letters = letters
        self.steps = steps
        self.accepting = accepting
        self.states = len(steps)

    def __eq__(self, other):
        if not isinstance(other, Reader):
            return False
        return self.letters == other.letters and self.steps == other.steps and self.accepting == other.accepting

    def __str__(self):
        return f"reader of {self.states} states over {self.letters} letters"


def check_reader(value):
    """Refuse what is no reader."""
    if not isinstance(value, Reader):
        raise InvalidReader("this is no reader")


def check_word(letters, value):
    """Refuse what is no word of so many letters."""
    if not isinstance(value, tuple) or len(value) > MOST_WORD:
        raise InvalidWord(f"this is no tuple of at most {MOST_WORD} letters")
    if not all([is_index(letter, letters) for letter in value]):
        raise InvalidWord(f"the word has members that are none of {letters} letters")


def state_after(reader, word):
    """The state behind the word."""
    check_reader(reader)
    check_word(reader.letters, word)
    return state_from(reader, 0, word)


def state_from(reader, state, word):
    """The state to which the word leads from the state."""
    for letter in word:
        state = reader.steps[state][letter]
    return state


def takes(reader, word):
    """Whether the word is taken."""
    return state_after(reader, word) in reader.accepting


def met(reader):
    """The ascending tuple of the states that are met."""
    check_reader(reader)
    return tuple(sorted(first_words(reader)))


def first_words(reader):
    """The first word that leads to each state that is met, in the sequence in which these are met."""
    found = {0: ()}
    waiting = [0]
    # Shorter words come first, of equally long ones the lesser, as each state is met breadth first.
    for _ in range(reader.states):
        nexts = []
        for state in waiting:
            for letter, goal in enumerate(reader.steps[state]):
                if goal not in found:
                    found[goal] = found[state] + (letter,)
                    nexts.append(goal)
        waiting = nexts
    return found


def first_word(reader):
    """The first word that is taken, None if there is none."""
    check_reader(reader)
    accepting = {state: True for state in reader.accepting}
    for state, word in first_words(reader).items():
        if state in accepting:
            return word
    return None


def _counts(reader, length):
    """For each length up to the told one: how many words of it lead from each state to an accepting one."""
    accepting = {state: True for state in reader.accepting}
    counts = [[1 if state in accepting else 0 for state in range(reader.states)]]
    for _ in range(length):
        last = counts[-1]
        counts.append([sum([last[goal] for goal in step]) for step in reader.steps])
    return counts


def word_count(reader, length):
    """How many words with so many letters are taken."""
    check_reader(reader)
    check_number(length, 0, MOST_LENGTH)
    return _counts(reader, length)[length][0]


def words(reader, length):
    """The ascending tuple of the words with so many letters that are taken."""
    check_reader(reader)
    check_number(length, 0, MOST_LENGTH)
    counts = _counts(reader, length)
    if counts[length][0] > MOST_LISTED:
        raise TooMany(MOST_LISTED)
    found = [((), 0)] if counts[length][0] > 0 else []
    for behind in range(length - 1, -1, -1):
        # What leads nowhere is left at once, so that there are never more beginnings than words.
        steps = [(word + (letter,), goal) for word, state in found for letter, goal in enumerate(reader.steps[state])]
        found = [(word, goal) for word, goal in steps if counts[behind][goal] > 0]
    return tuple([word for word, _ in found])


def after_times(reader, word, times):
    """The state behind the word, read so many times."""
    check_reader(reader)
    check_word(reader.letters, word)
    check_number(times, 0, MOST_TIMES)
    behind = [0]
    seen = {0: 0}
    while len(behind) <= times:
        state = state_from(reader, behind[-1], word)
        if state in seen:
            first = seen[state]
            return behind[first + (times - first) % (len(behind) - first)]
        seen[state] = len(behind)
        behind.append(state)
    return behind[times]
