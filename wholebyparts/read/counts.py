"""When the sequence of letters does not matter, and words that are read again and again."""

from math import lcm

from wholebyparts.checks import are_integers, check_number, is_between
from wholebyparts.errors import InvalidOperation, Refused
from wholebyparts.read.drafts import draft_of, reader_from
from wholebyparts.read.parting import parting_word
from wholebyparts.read.readers import MOST_LETTERS, MOST_TIMES, at_time, check_reader, check_word, first_words
from wholebyparts.read.readers import is_word, state_from, times_met


def counts_of(letters, word):
    """How often each letter comes in the word."""
    check_number(letters, 1, MOST_LETTERS)
    check_word(letters, word)
    return _counts(letters, word)


def _counts(letters, word):
    told = [0] * letters
    for letter in word:
        told[letter] += 1
    return tuple(told)


def order_answer(reader):
    """Whether the reader is order-free; if not, any two words with equal counts of which it takes just one."""
    check_reader(reader)
    return order_told(reader_from(draft_of(reader)))


def order_told(least):
    """The answer for a least reader."""
    state, one, other = _unlike(least)
    if state is None:
        return ("free",)
    ahead = first_words(least)[state]
    begin = (state_from(least, state, (one, other)), state_from(least, state, (other, one)))
    rest = parting_word(least, least, begin)
    return ("words", ahead + (one, other) + rest, ahead + (other, one) + rest)


def _unlike(least):
    """The first state and two letters whose sequence matters there; all None if there are none."""
    columns = list(zip(*least.steps))
    firsts = {}
    for letter, column in enumerate(columns):
        firsts.setdefault(column, letter)
    letters = list(firsts.values())
    for state, step in enumerate(least.steps):
        for index, one in enumerate(letters):
            for other in letters[index + 1:]:
                if columns[other][step[one]] != columns[one][step[other]]:
                    return (state, one, other)
    return (None, None, None)


def is_order_answer(reader, value):
    """Whether the value is an answer, with any such words."""
    check_reader(reader)
    if value == ("free",):
        return is_free(reader_from(draft_of(reader)))
    return _are_words_apart(reader, value)


def is_order_told(least, value):
    """Whether the value is an answer for a least reader."""
    if value == ("free",):
        return is_free(least)
    return _are_words_apart(least, value)


def _are_words_apart(reader, value):
    """Whether the value tells two words with equal counts of which the reader takes just one."""
    if not isinstance(value, tuple) or len(value) != 3 or value[0] != "words":
        return False
    one, other = value[1:]
    if not is_word(reader.letters, one) or not is_word(reader.letters, other):
        return False
    if _counts(reader.letters, one) != _counts(reader.letters, other):
        return False
    return (state_from(reader, 0, one) in reader.accepting) != (state_from(reader, 0, other) in reader.accepting)


def is_free(least):
    """Whether a least reader is order-free."""
    return _unlike(least)[0] is None


def turns(reader):
    """For each letter the least first time and period from which on what it does to the states comes round."""
    check_reader(reader)
    return turns_told(reader_from(draft_of(reader)))


def turns_told(least):
    """The turns of a least reader."""
    return tuple([_turn(column) for column in zip(*least.steps)])


def _turn(column):
    """The first time and the period of one letter, told by the next state of each state."""
    first, period = 0, 1
    # How many steps each state is away from the states that it comes back to.
    away = {}
    for state in range(len(column)):
        seen = {}
        row = []
        while state not in seen and state not in away:
            seen[state] = len(row)
            row.append(state)
            state = column[state]
        if state in away:
            begin, far = len(row), away[state]
        else:
            begin, far = seen[state], 0
            period = lcm(period, len(row) - begin)
        for index, one in enumerate(row):
            away[one] = max(begin - index, 0) + far
            first = max(first, away[one])
    return (first, period)


def _checked(reader, counts):
    """The least reader: the reader and the counts are checked, then whether it is order-free."""
    check_reader(reader)
    if not is_counts(reader.letters, counts):
        raise InvalidOperation("the counts are no tuple of one count for each letter")
    least = reader_from(draft_of(reader))
    if not is_free(least):
        raise Refused(("order",))
    return least


def is_counts(letters, value):
    """Whether the value is a tuple of counts of so many letters."""
    if not isinstance(value, tuple) or len(value) != letters or not are_integers(value):
        return False
    return all([is_between(count, 0, MOST_TIMES) for count in value])


def takes_counts(reader, counts):
    """Whether the order-free reader takes the words with these counts."""
    return counts_taken(_checked(reader, counts), counts)


def counts_taken(least, counts):
    """Whether a least reader that is order-free takes the words with these counts."""
    state = 0
    for letter, count in enumerate(counts):
        state = at_time(times_met(least, (letter,), state, count), count)
    return state in least.accepting


def lessened(reader, counts):
    """The counts, each put to the least one that leads alike."""
    told = turns_told(_checked(reader, counts))
    return tuple([_lessened(first, period, count) for (first, period), count in zip(told, counts)])


def _lessened(first, period, count):
    return count if count < first else first + (count - first) % period


def repeat_answer(reader, word):
    """The first time, the period and the answers of the word, read again and again."""
    check_reader(reader)
    check_word(reader.letters, word)
    return repeat_told(reader, word)


def repeat_told(reader, word):
    """The answer for a reader and a word."""
    row, first = times_met(reader, word, 0, reader.states)
    answers = [state in reader.accepting for state in row]
    period = _least_period(answers[first:])
    while first > 0 and answers[first - 1] == answers[first - 1 + period]:
        first -= 1
    return (first, period, tuple(answers[:first + period]))


def _least_period(answers):
    """The least period of the answers, which come again and again."""
    many = len(answers)
    for period in range(1, many):
        if many % period == 0 and answers[period:] == answers[:many - period]:
            return period
    return many


def takes_times(reader, word, times):
    """Whether the word so many times, one behind the other, is taken."""
    check_reader(reader)
    check_word(reader.letters, word)
    check_number(times, 0, MOST_TIMES)
    return times_taken(reader, word, times)


def times_taken(reader, word, times):
    """Whether the word so many times is taken by the reader."""
    return at_time(times_met(reader, word, 0, times), times) in reader.accepting
