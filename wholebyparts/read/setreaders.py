"""The readers of set formulas, made part by part."""

from wholebyparts.read.drafts import Draft, both_draft, either_draft, explored, guessed_draft, least_draft
from wholebyparts.read.drafts import opposite_draft
from wholebyparts.read.lots import numbered
from wholebyparts.read.setforms import PLAIN

MOST_MADE = 2000
# The state in which each plain form accepts.
ACCEPTING = {"letter": 0, "within": 0, "single": 1, "before": 2}


def draft_of_formula(letters, formula):
    """The least draft of the words of which a closed set formula holds; TooMany(2000) if too much is met."""
    return _part(letters, formula, 0)[1]


def _part(letters, formula, bound):
    """The ascending tuple of the variables of a part of a formula, and its least draft.

    Its letters tell a letter of the word and in which of the sets its place is: the letter a has the number a, with
    letters * 2 ** i more for the variable i of the tuple if the place is in its set.
    """
    word = formula[0]
    if word in PLAIN:
        return _plain(letters, formula)
    if word == "not":
        return _opposite(_part(letters, formula[1], bound))
    if word == "some":
        return _some(letters, _part(letters, formula[1], bound + 1), bound)
    if word == "all":
        return _opposite(_some(letters, _opposite(_part(letters, formula[1], bound + 1)), bound))
    parts = [_part(letters, part, bound) for part in formula[1:]]
    names = tuple(sorted({name for told, _ in parts for name in told}))
    one, other = [_with_names(letters, names, told, draft) for told, draft in parts]
    if word == "and":
        return (names, least_draft(both_draft(one, other, MOST_MADE)))
    return (names, least_draft(either_draft(one, other, MOST_MADE)))


def _opposite(part):
    names, draft = part
    return (names, opposite_draft(draft))


def _some(letters, part, bound):
    """The part "some" of a part: its last variable is guessed, if it has the one that is bound."""
    names, draft = part
    if bound not in names:
        return part
    many = letters << (len(names) - 1)
    lots = [(letter, letter + many) for letter in range(many)]
    return (names[:-1], least_draft(guessed_draft(draft, lots, MOST_MADE)))


def _with_names(letters, names, told, draft):
    """The draft of a part with the told variables as one of a part with more of them."""
    if names == told:
        return draft
    table = []
    for number in range(letters << len(names)):
        bits = number // letters
        kept = [bits >> names.index(name) & 1 for name in told]
        table.append(number % letters + letters * sum([bit << index for index, bit in enumerate(kept)]))
    # What is met stays so, in the same sequence, as less letters come first in both ways.
    return Draft([draft.looks[letter] for letter in table], draft.steps, draft.accepting)


def _plain(letters, formula):
    """The variables and the least draft of a plain form."""
    word = formula[0]
    variables = formula[2:] if word == "letter" else formula[1:]
    names = tuple(sorted(set(variables)))
    sights = []
    for number in range(letters << len(names)):
        sights.append(tuple([number // letters >> names.index(name) & 1 for name in variables]))
        if word == "letter":
            sights[-1] = sights[-1] + (1 if number % letters == formula[1] else 0,)
    looks, kept = numbered(sights)
    draft = explored(
        looks, 0,
        lambda state: [_next(word, state, sight) for sight in kept],
        lambda state: state == ACCEPTING[word],
    )
    return (names, least_draft(draft))


def _next(word, state, sight):
    """The next state of a plain form by what it sees of a letter: which of its sets have the place."""
    if word in ("letter", "within"):
        return 1 if sight == (1, 0) else state
    if word == "single":
        return min(state + sight[0], 2)
    if sight == (0, 0):
        return state
    return state + 1 if (state, sight) in ((0, (1, 0)), (1, (0, 1))) else 3
