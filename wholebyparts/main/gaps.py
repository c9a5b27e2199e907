"""A part that is not known: what fits between parts that are."""

from wholebyparts.checks import check_index
from wholebyparts.errors import InvalidParts
from wholebyparts.main.reducing import Reducing
from wholebyparts.main.stocks import check_asked, check_depth_with, is_stock_member, made_reader
from wholebyparts.read.readers import check_word, first_words, is_word, state_from
from wholebyparts.say.formulas import is_well_formed, quantified
from wholebyparts.say.levels import holds_at
from wholebyparts.shape.shapes import check_shape
from wholebyparts.shape.wholes import check_whole_formula

MOST_AROUND = 5


def gap_answer(shape, stock, formula, before, after):
    """The ascending tuple of the indices of the structures of the stock that fit between both words."""
    check_asked(shape, stock, formula)
    check_word(len(stock), before)
    check_word(len(stock), after)
    reader = made_reader(shape, stock, formula)
    return _fitting(reader, list(range(len(stock))), before, after)


def _fitting(reader, letters, before, after):
    """The tuple of those of the letters with which, between both words, the reader takes the word."""
    step = reader.steps[state_from(reader, 0, before)]
    return tuple([letter for letter in letters if state_from(reader, step[letter], after) in reader.accepting])


def _check_around(shape, ahead, behind):
    """Refuse what are no parts ahead and behind."""
    for parts in (ahead, behind):
        if not isinstance(parts, tuple) or not all([is_stock_member(shape.signature, part) for part in parts]):
            raise InvalidParts("this is no tuple of structures of the signature, each of a size up to 4")
    if len(ahead) + len(behind) > MOST_AROUND:
        raise InvalidParts(f"these are more than {MOST_AROUND} parts ahead and behind")


def gap_formula(shape, formula, ahead, behind):
    """Any formula that holds in just the structures that fit between the parts ahead and those behind."""
    check_shape(shape)
    check_whole_formula(shape, formula)
    _check_around(shape, ahead, behind)
    check_depth_with(shape, quantified(formula))
    return Reducing(shape, formula).between(ahead, behind)


def is_gap_formula(shape, stock, formula, ahead, behind, value):
    """Whether the value is a closed formula that holds in just those structures of the stock that fit."""
    check_asked(shape, stock, formula)
    _check_around(shape, ahead, behind)
    reader = made_reader(shape, stock + ahead + behind, formula)
    if not is_well_formed(shape.signature, 0, value):
        return False
    many = len(stock)
    before = tuple(range(many, many + len(ahead)))
    after = tuple(range(many + len(ahead), reader.letters))
    fitting = _fitting(reader, list(range(many)), before, after)
    return fitting == tuple([index for index, one in enumerate(stock) if holds_at(one, (), value)])


def _check_index(shape, stock, formula, index):
    check_asked(shape, stock, formula)
    check_index(index, len(stock))


def gap_for(shape, stock, formula, index):
    """Any two words between which the structure of the stock fits, or that it never does."""
    _check_index(shape, stock, formula, index)
    reader = made_reader(shape, stock, formula)
    return _gap_for(reader, index)


def _gap_for(reader, index):
    rests = _rests(reader)
    for state, before in first_words(reader).items():
        goal = reader.steps[state][index]
        if goal in rests:
            return ("gap", before, rests[goal])
    return ("never",)


def _rests(reader):
    """For each state from which some word is taken a shortest one."""
    rests = {state: () for state in reader.accepting}
    waiting = list(reader.accepting)
    sources = [[] for _ in reader.steps]
    for state, step in enumerate(reader.steps):
        for letter, goal in enumerate(step):
            sources[goal].append((state, letter))
    while waiting:
        nexts = []
        for goal in waiting:
            for state, letter in sources[goal]:
                if state not in rests:
                    rests[state] = (letter,) + rests[goal]
                    nexts.append(state)
        waiting = nexts
    return rests


def is_gap_for(shape, stock, formula, index, value):
    """Whether the value is an answer, with any such words."""
    _check_index(shape, stock, formula, index)
    reader = made_reader(shape, stock, formula)
    if not isinstance(value, tuple):
        return False
    if value == ("never",):
        return _gap_for(reader, index) == value
    if len(value) != 3 or value[0] != "gap":
        return False
    before, after = value[1:]
    if not is_word(reader.letters, before) or not is_word(reader.letters, after):
        return False
    return len(_fitting(reader, [index], before, after)) > 0
