"""Copies of a part, one behind the other, and when the sequence of the parts does not matter."""

from wholebyparts.checks import check_number
from wholebyparts.errors import InvalidOperation, InvalidStructure, Refused
from wholebyparts.main.stocks import check_asked, is_stock_member, made_reader
from wholebyparts.read.counts import counts_taken, is_counts, is_free, is_order_told, order_told, repeat_told
from wholebyparts.read.counts import times_taken, turns_told
from wholebyparts.read.readers import MOST_TIMES, check_word
from wholebyparts.shape.shapes import check_shape
from wholebyparts.shape.wholes import check_whole_formula


def _check_one(shape, structure, formula):
    check_shape(shape)
    if not is_stock_member(shape.signature, structure):
        raise InvalidStructure("this is no structure of the signature of the parts, of a size up to 4")
    check_whole_formula(shape, formula)


def power_answer(shape, structure, formula):
    """The first number of copies and the period from which on the answers come round, and the answers."""
    _check_one(shape, structure, formula)
    return repeat_told(made_reader(shape, (structure,), formula), (0,))


def power_holds(shape, structure, formula, times):
    """Whether the whole of so many copies has the formula."""
    _check_one(shape, structure, formula)
    check_number(times, 0, MOST_TIMES)
    return times_taken(made_reader(shape, (structure,), formula), (0,), times)


def mixed_power(shape, stock, formula, word):
    """The first number, the period and the answers for the parts of the word again and again."""
    check_asked(shape, stock, formula)
    check_word(len(stock), word)
    return repeat_told(made_reader(shape, stock, formula), word)


def mixed_holds(shape, stock, formula, word, times):
    """Whether the whole of the parts of the word, so many times, has the formula."""
    check_asked(shape, stock, formula)
    check_word(len(stock), word)
    check_number(times, 0, MOST_TIMES)
    return times_taken(made_reader(shape, stock, formula), word, times)


def sequence_answer(shape, stock, formula):
    """Whether the sequence of the parts does not matter; if it does, any two words that show it."""
    check_asked(shape, stock, formula)
    return order_told(made_reader(shape, stock, formula))


def is_sequence_answer(shape, stock, formula, value):
    """Whether the value is an answer, with any such words."""
    check_asked(shape, stock, formula)
    return is_order_told(made_reader(shape, stock, formula), value)


def count_turns(shape, stock, formula):
    """For each structure of the stock the first number and the period from which on more of it come round."""
    check_asked(shape, stock, formula)
    return turns_told(made_reader(shape, stock, formula))


def counts_hold(shape, stock, formula, counts):
    """Whether the whole with so many of each structure has the formula."""
    check_asked(shape, stock, formula)
    if not is_counts(len(stock), counts):
        raise InvalidOperation("the counts are no tuple of one count for each structure of the stock")
    reader = made_reader(shape, stock, formula)
    if not is_free(reader):
        raise Refused(("order",))
    return counts_taken(reader, counts)
