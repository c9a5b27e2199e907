"""Readers made of readers; whether two of them take the same words."""

from wholebyparts.checks import are_indices, are_pairs, is_ascending, is_index_tuple
from wholebyparts.errors import InvalidOperation
from wholebyparts.read.apart import check_apart
from wholebyparts.read.drafts import both_draft, draft_of, explored, guessed_draft
from wholebyparts.read.drafts import joined_bits, joined_rows, led_draft, opposite_draft, told_reader
from wholebyparts.read.parting import pairs_met, parting_word
from wholebyparts.read.readers import MOST_LETTERS, MOST_STATES, check_reader, is_word, state_from


def check_both(one, other):
    """Refuse what are no two readers of equally many letters."""
    check_reader(one)
    check_reader(other)
    if one.letters != other.letters:
        raise InvalidOperation("the readers have unlike numbers of letters")


def both(one, other):
    """The least reader of what both take."""
    check_both(one, other)
    return told_reader(_both(draft_of(one), draft_of(other)))


def _both(one, other):
    """The draft of what both drafts take."""
    check_apart(one, other, MOST_STATES)
    return both_draft(one, other)


def either(one, other):
    """The least reader of what at least one of both takes."""
    check_both(one, other)
    return told_reader(opposite_draft(_both(opposite_draft(draft_of(one)), opposite_draft(draft_of(other)))))


def opposite(reader):
    """The least reader of what the reader does not take."""
    check_reader(reader)
    return told_reader(opposite_draft(draft_of(reader)))


def least(reader):
    """The least reader that takes the same."""
    check_reader(reader)
    return told_reader(draft_of(reader))


def _is_tuple_of_letters(value):
    """Whether the value is a tuple of as many members as a reader can have letters."""
    return isinstance(value, tuple) and 1 <= len(value) <= MOST_LETTERS


def led(reader, table):
    """The least reader that reads the letter a as table[a]."""
    check_reader(reader)
    if not _is_tuple_of_letters(table) or not are_indices(table, reader.letters):
        raise InvalidOperation("the table is no tuple of letters of the reader")
    return told_reader(led_draft(draft_of(reader), table))


def guessed(reader, lots):
    """The least reader that takes a word if some reading of it is taken."""
    check_reader(reader)
    if not _is_tuple_of_letters(lots) or not all([is_index_tuple(lot, reader.letters) for lot in lots]):
        raise InvalidOperation("the lots are no ascending tuples of letters of the reader")
    return told_reader(guessed_draft(draft_of(reader), lots, MOST_STATES))


def behind(one, other):
    """The least reader of the words that the one takes, with words that the other takes behind them."""
    check_both(one, other)
    ahead, rest = draft_of(one), draft_of(other)
    # A thing is a state of the one and, by its bits, the states of the other that its words can be in.
    rows = [[1 << step[look] for look in rest.looks] for step in rest.steps]
    accepting = joined_bits([1 << state for state, accepts in enumerate(rest.accepting) if accepts])

    def begun(state, states):
        return (state, states | 1 if ahead.accepting[state] else states)

    def follow(thing):
        goals = joined_rows(rows, thing[1], one.letters)
        step = ahead.steps[thing[0]]
        return [begun(step[look], goal) for look, goal in zip(ahead.looks, goals)]

    letters = list(range(one.letters))
    return told_reader(explored(letters, begun(0, 0), follow, lambda thing: thing[1] & accepting > 0, MOST_STATES))


def backward(reader):
    """The least reader of the backward words of what the reader takes."""
    check_reader(reader)
    draft = draft_of(reader)
    many = len(draft.steps[0])
    rows = [[0] * many for _ in draft.steps]
    for state, step in enumerate(draft.steps):
        for look, goal in enumerate(step):
            rows[goal][look] = rows[goal][look] | 1 << state
    begin = joined_bits([1 << state for state, accepts in enumerate(draft.accepting) if accepts])
    return told_reader(explored(
        draft.looks, begin,
        lambda states: joined_rows(rows, states, many),
        lambda states: states & 1 > 0,
        MOST_STATES,
    ))


def alike_answer(one, other):
    """The pairs of states that show that both readers take the same, or a word that just one of both takes."""
    check_both(one, other)
    word = parting_word(one, other, (0, 0))
    if word is not None:
        return ("word", word)
    return ("alike", tuple(sorted(pairs_met(one, other, (0, 0)))))


def is_alike_answer(one, other, value):
    """Whether the value is an answer, with any such pairs, or any such word."""
    check_both(one, other)
    if not isinstance(value, tuple) or len(value) != 2:
        return False
    if value[0] == "alike":
        return _are_alike_pairs(one, other, value[1])
    return value[0] == "word" and is_word(one.letters, value[1]) and _is_taken_by_one(one, other, value[1])


def _is_taken_by_one(one, other, word):
    return (state_from(one, 0, word) in one.accepting) != (state_from(other, 0, word) in other.accepting)


def _are_alike_pairs(one, other, value):
    """Whether the value is an ascending tuple of pairs of states that shows that both readers take the same."""
    if not isinstance(value, tuple) or not are_pairs(value):
        return False
    if not are_indices([a for a, _ in value], one.states) or not are_indices([b for _, b in value], other.states):
        return False
    found = {pair: True for pair in value}
    if not is_ascending(value) or (0, 0) not in found:
        return False
    takers = [{state: True for state in reader.accepting} for reader in (one, other)]
    for a, b in value:
        if (a in takers[0]) != (b in takers[1]):
            return False
        if [pair for pair in zip(one.steps[a], other.steps[b]) if pair not in found]:
            return False
    return True
