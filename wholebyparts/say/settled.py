"""Formulas in which something is known of the variables: it is put in, and what then hangs on nothing is left out."""

from wholebyparts.part.rows import NONE
from wholebyparts.say.formulas import NEVER, NUMBERS

TRUE = ("true",)


def settled(formula, names, sure, apart=0):
    """The formula in which each variable v, bound ones too, is called names[v], or is none.

    The new names from `sure` on are those of elements, unlike ones below `apart` are never equal.
    """
    word = formula[0]
    if word in NUMBERS:
        return _settled_atom(formula, names, sure, apart)
    parts = [settled(part, names, sure, apart) for part in formula[1:]]
    if word == "not":
        return negated(parts[0])
    if word == "and":
        return both_of(parts[0], parts[1])
    if word == "or":
        return either_of(parts[0], parts[1])
    if word == "some":
        return some_of(parts[0])
    return TRUE if parts[0] == TRUE else ("all", parts[0])


def _settled_atom(atom, names, sure, apart):
    word = atom[0]
    if word == "true":
        return atom
    if word == "none":
        return _is_none(names[atom[1]], sure)
    if word == "same":
        low, high = sorted([names[atom[1]], names[atom[2]]])
        if low == high:
            return TRUE
        if low == NONE:
            return _is_none(high, sure)
        return NEVER if high < apart else ("same", low, high)
    variables = [names[number] for number in atom[2:]]
    return NEVER if NONE in variables else (word, atom[1], *variables)


def _is_none(name, sure):
    """What tells that the variable with the new name is none."""
    if name == NONE:
        return TRUE
    return NEVER if name >= sure else ("none", name)


def negated(formula):
    """The opposite of the formula, without two "not" one behind the other."""
    return formula[1] if formula[0] == "not" else ("not", formula)


def both_of(one, other):
    """What tells that both formulas hold."""
    if one == NEVER or other == NEVER:
        return NEVER
    if one == TRUE or one == other:
        return other
    return one if other == TRUE else ("and", one, other)


def either_of(one, other):
    """What tells that at least one of both formulas holds."""
    if one == TRUE or other == TRUE:
        return TRUE
    if one == NEVER or one == other:
        return other
    return one if other == NEVER else ("or", one, other)


def some_of(formula):
    """What tells that the formula holds with some element."""
    return NEVER if formula == NEVER else ("some", formula)
