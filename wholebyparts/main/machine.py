"""The one reader of a formula about the whole: it reads the parts, and takes the words whose whole has the formula."""

from wholebyparts.checks import check_number
from wholebyparts.kinds.trees import kind_of
from wholebyparts.main.stocks import check_asked, check_depth_with, check_stock, made_reader
from wholebyparts.read.readers import check_word, first_words, state_from
from wholebyparts.say.formulas import MOST_DEPTH


def reader_of(shape, stock, formula):
    """The least reader."""
    check_asked(shape, stock, formula)
    return made_reader(shape, stock, formula)


def answer(shape, stock, formula, word):
    """Whether the whole of the word has the formula."""
    check_asked(shape, stock, formula)
    check_word(len(stock), word)
    reader = made_reader(shape, stock, formula)
    return state_from(reader, 0, word) in reader.accepting


def state_words(shape, stock, formula):
    """For each state of the least reader the first word that leads to it."""
    check_asked(shape, stock, formula)
    # The states of a least reader are numbered as they are met.
    return tuple(list(first_words(made_reader(shape, stock, formula)).values()))


def classes(shape, stock, depth):
    """The lots of the letters of one kind, of the depth and the extra together."""
    check_stock(shape, stock)
    check_number(depth, 0, MOST_DEPTH)
    check_depth_with(shape, depth)
    kinds = [kind_of(structure, (), depth + shape.extra) for structure in stock]
    firsts = [kinds.index(tree) for tree in kinds]
    lots = [[letter for letter, one in enumerate(firsts) if one == first] for first in range(len(stock))]
    return tuple([tuple(lot) for lot in lots if lot])
