"""Words over a stock that may stand for one another, ahead of every word or within every one."""

from wholebyparts.errors import TooMany
from wholebyparts.main.stocks import check_asked, made_reader
from wholebyparts.read.parting import parting_word
from wholebyparts.read.readers import check_word, first_words, is_word, state_from

MOST_MAPS = 512


def _check_words(shape, stock, formula, one, other):
    check_asked(shape, stock, formula)
    check_word(len(stock), one)
    check_word(len(stock), other)


def beginnings_answer(shape, stock, formula, one, other):
    """Whether both words may stand for one another ahead; if not, any rest that parts them."""
    _check_words(shape, stock, formula, one, other)
    reader = made_reader(shape, stock, formula)
    begin = (state_from(reader, 0, one), state_from(reader, 0, other))
    if begin[0] == begin[1]:
        return ("alike",)
    return ("rest", parting_word(reader, reader, begin))


def is_beginnings_answer(shape, stock, formula, one, other, value):
    """Whether the value is an answer, with any rest."""
    _check_words(shape, stock, formula, one, other)
    reader = made_reader(shape, stock, formula)
    if not isinstance(value, tuple):
        return False
    begin = (state_from(reader, 0, one), state_from(reader, 0, other))
    if value == ("alike",):
        return begin[0] == begin[1]
    if len(value) != 2 or value[0] != "rest" or not is_word(len(stock), value[1]):
        return False
    return _is_parted(reader, begin, value[1])


def _is_parted(reader, begin, rest):
    """Whether the rest is taken from just one of both states."""
    ends = [state_from(reader, state, rest) in reader.accepting for state in begin]
    return ends[0] != ends[1]


def middles_answer(shape, stock, formula, one, other):
    """Whether both words may stand for one another within; if not, any words around that part them."""
    _check_words(shape, stock, formula, one, other)
    reader = made_reader(shape, stock, formula)
    goals = list(zip(_map(reader, one), _map(reader, other)))
    unlike = [state for state, pair in enumerate(goals) if pair[0] != pair[1]]
    if not unlike:
        return ("alike",)
    return ("around", first_words(reader)[unlike[0]], parting_word(reader, reader, goals[unlike[0]]))


def is_middles_answer(shape, stock, formula, one, other, value):
    """Whether the value is an answer, with any words around."""
    _check_words(shape, stock, formula, one, other)
    reader = made_reader(shape, stock, formula)
    if not isinstance(value, tuple):
        return False
    if value == ("alike",):
        return _map(reader, one) == _map(reader, other)
    if len(value) != 3 or value[0] != "around":
        return False
    before, after = value[1:]
    if not is_word(len(stock), before) or not is_word(len(stock), after):
        return False
    state = state_from(reader, 0, before)
    return _is_parted(reader, (state_from(reader, state, one), state_from(reader, state, other)), after)


def _map(reader, word):
    """The map of the word: the tuple of the states to which it leads, one for each state."""
    columns = list(zip(*reader.steps))
    # States that have been led to one stay together, and are led on once.
    met = list(range(reader.states))
    where = list(met)
    for letter in word:
        column = columns[letter]
        goals = [column[state] for state in met]
        if len(set(goals)) < len(met):
            names = {state: name for name, state in enumerate(sorted(set(goals)))}
            where = [names[goals[name]] for name in where]
            met = list(names)
        else:
            met = goals
    return tuple([met[name] for name in where])


def _maps(reader):
    """The first word of each map, in the sequence in which these are met; TooMany for too many of them."""
    columns = list(zip(*reader.steps))
    # Of letters with one map the first one tells all.
    letters = [letter for letter, column in enumerate(columns) if columns.index(column) == letter]
    begin = tuple(range(reader.states))
    found = {begin: ()}
    waiting = [begin]
    while waiting:
        nexts = []
        for one in waiting:
            for letter in letters:
                column = columns[letter]
                longer = tuple([column[state] for state in one])
                if longer not in found:
                    found[longer] = found[one] + (letter,)
                    nexts.append(longer)
            if len(found) > MOST_MAPS:
                raise TooMany(MOST_MAPS)
        waiting = nexts
    return found


def beginnings_number(shape, stock, formula):
    """How many lots ahead there are."""
    check_asked(shape, stock, formula)
    return made_reader(shape, stock, formula).states


def middles_number(shape, stock, formula):
    """How many lots within there are."""
    check_asked(shape, stock, formula)
    return len(_maps(made_reader(shape, stock, formula)))


def beginnings(shape, stock, formula):
    """The first words of all lots ahead."""
    check_asked(shape, stock, formula)
    return tuple(list(first_words(made_reader(shape, stock, formula)).values()))


def middles(shape, stock, formula):
    """The first words of all lots within."""
    check_asked(shape, stock, formula)
    return tuple(list(_maps(made_reader(shape, stock, formula)).values()))


def map_of(shape, stock, formula, word):
    """The map of the word."""
    check_asked(shape, stock, formula)
    check_word(len(stock), word)
    return _map(made_reader(shape, stock, formula), word)


def multiplied(shape, stock, formula, one, other):
    """The first word of the lot within of the one word with the other one behind it."""
    _check_words(shape, stock, formula, one, other)
    reader = made_reader(shape, stock, formula)
    maps = _maps(reader)
    second = _map(reader, other)
    return maps[tuple([second[state] for state in _map(reader, one)])]
