"""Claims, their opposites, and the papers that show which of both is true."""

from wholebyparts.errors import InvalidClaim, InvalidNumber, PartError, Refused, TooMany
from wholebyparts.kinds.games import book_answer, is_book_answer
from wholebyparts.kinds.pairs import check_limits, check_rows
from wholebyparts.kinds.parting import is_parting_answer
from wholebyparts.main.asked import agree_answer, always_answer
from wholebyparts.main.stocks import check_asked, check_depth_with, made_reader
from wholebyparts.read.making import alike_answer, check_both, is_alike_answer
from wholebyparts.read.readers import is_word, state_from
from wholebyparts.say.formulas import quantified
from wholebyparts.shape.wholes import check_whole_formula

# The word of each claim beside that of its opposite.
OPPOSITES = {
    "alike": "apart", "apart": "alike", "taken alike": "taken unlike", "taken unlike": "taken alike",
    "always": "lacking", "lacking": "always", "agree": "parted", "parted": "agree",
}
# How many members follow the word.
MEMBERS = {
    "alike": 5, "apart": 5, "taken alike": 2, "taken unlike": 2, "always": 3, "lacking": 3, "agree": 4, "parted": 4,
}


def is_claim(value):
    """Whether the value is a claim."""
    if not isinstance(value, tuple) or not value or not isinstance(value[0], str):
        return False
    if value[0] not in MEMBERS or len(value) != MEMBERS[value[0]] + 1:
        return False
    try:
        _check_members(value[0], value[1:])
    except (PartError, InvalidNumber, TooMany, Refused):
        return False
    return True


def _check_members(word, members):
    """Refuse what the function of the claims with the word refuses, but for too many states."""
    if word in ("alike", "apart"):
        _check_alike(*members)
    elif word in ("taken alike", "taken unlike"):
        check_both(*members)
    elif word in ("always", "lacking"):
        _check_always(*members)
    else:
        _check_agree(*members)


def _check_alike(one, row, other, goal, depth):
    check_rows(one, row, other, goal, depth)
    check_limits(one, other, depth)


def _check_always(shape, stock, formula):
    check_asked(shape, stock, formula)
    check_depth_with(shape, quantified(formula))


def _check_agree(shape, stock, first, second):
    check_asked(shape, stock, first)
    check_whole_formula(shape, second)
    check_depth_with(shape, max(quantified(first), quantified(second)))


def _check_claim(value):
    if not is_claim(value):
        raise InvalidClaim("this is no claim")


def opposite(claim):
    """The opposite of the claim."""
    _check_claim(claim)
    return _with_word(claim, OPPOSITES[claim[0]])


def _with_word(claim, word):
    """The claim of the word with the members of the claim."""
    return (word, *claim[1:])


def takes(claim, paper):
    """Whether the paper is one for the claim."""
    _check_claim(claim)
    word, members = claim[0], claim[1:]
    if word == "alike":
        return _has_form(paper, "book", 2) and is_book_answer(*members, paper)
    if word == "apart":
        if _has_form(paper, "tree", 2):
            return is_book_answer(*members, paper)
        return _has_form(paper, "formula", 2) and is_parting_answer(*members, paper)
    if word == "taken alike":
        return _has_form(paper, "alike", 2) and is_alike_answer(*members, paper)
    if word == "taken unlike":
        return _has_form(paper, "word", 2) and is_alike_answer(*members, paper)
    # Readers are made ahead of a look at the paper, so that they are refused whatever the paper is.
    readers = [made_reader(members[0], members[1], formula) for formula in members[2:]]
    if word in ("lacking", "parted"):
        return _has_form(paper, "word", 2) and _shows(readers, paper[1])
    return _has_form(paper, word, 1) and _holds(readers)


def _has_form(paper, word, many):
    """Whether the paper is a tuple of so many members that begins with the word."""
    return isinstance(paper, tuple) and len(paper) == many and paper[0] == word


def _shows(readers, value):
    """Whether the value is a word that the only reader does not take, or that just one of both takes."""
    if not is_word(readers[0].letters, value):
        return False
    taken = [state_from(reader, 0, value) in reader.accepting for reader in readers]
    return not taken[0] if len(taken) == 1 else taken[0] != taken[1]


def _holds(readers):
    """Whether the only least reader takes every word, or whether both take the same."""
    if len(readers) == 1:
        return readers[0].states == 1 and readers[0].accepting == (0,)
    return readers[0] == readers[1]


def answered(claim):
    """The true one of the claim and its opposite, and any paper for it."""
    _check_claim(claim)
    word, members = claim[0], claim[1:]
    if word in ("alike", "apart"):
        paper = book_answer(*members)
        return (_with_word(claim, "alike" if paper[0] == "book" else "apart"), paper)
    if word in ("taken alike", "taken unlike"):
        paper = alike_answer(*members)
        return (_with_word(claim, "taken alike" if paper[0] == "alike" else "taken unlike"), paper)
    if word in ("always", "lacking"):
        paper = always_answer(*members)
        return (_with_word(claim, "always" if paper[0] == "always" else "lacking"), paper)
    paper = agree_answer(*members)
    return (_with_word(claim, "agree" if paper[0] == "agree" else "parted"), paper)
