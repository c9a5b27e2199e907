"""Questions about all words over a stock."""

from wholebyparts.checks import check_number
from wholebyparts.main.stocks import check_asked, check_depth_with, made_reader
from wholebyparts.read.parting import parting_word
from wholebyparts.read.readers import MOST_LENGTH, Reader, first_word, word_count
from wholebyparts.say.formulas import quantified
from wholebyparts.shape.wholes import check_whole_formula


def always_answer(shape, stock, formula):
    """Whether every word has the formula; if not, the first word that lacks it."""
    check_asked(shape, stock, formula)
    reader = made_reader(shape, stock, formula)
    lacking = tuple([state for state in range(reader.states) if state not in reader.accepting])
    word = first_word(Reader(reader.letters, reader.steps, lacking))
    return ("always",) if word is None else ("word", word)


def agree_answer(shape, stock, first, second):
    """Whether both formulas agree on all words; if not, the first word that has just one of them."""
    check_asked(shape, stock, first)
    check_whole_formula(shape, second)
    check_depth_with(shape, max(quantified(first), quantified(second)))
    one, other = made_reader(shape, stock, first), made_reader(shape, stock, second)
    word = parting_word(one, other, (0, 0))
    return ("agree",) if word is None else ("word", word)


def some_word(shape, stock, formula):
    """The first word that has the formula, None if there is none."""
    check_asked(shape, stock, formula)
    return first_word(made_reader(shape, stock, formula))


def how_many(shape, stock, formula, length):
    """How many words with so many letters have the formula."""
    check_asked(shape, stock, formula)
    check_number(length, 0, MOST_LENGTH)
    return word_count(made_reader(shape, stock, formula), length)
