"""Formulas that tell some cases from others by the answers to questions."""

from wholebyparts.errors import TooMany
from wholebyparts.say.formulas import MOST_NODES, NEVER, counted
from wholebyparts.say.settled import TRUE, both_of, either_of, negated


def decided(questions, cases, wanted):
    """The formula that holds of the wanted ones of the cases: others never come, whatever it says of them.

    Questions are formulas, a case is a number with a bit for each of them that holds. TooMany for too many nodes.
    """
    if not [case for case in cases if case in wanted]:
        return NEVER
    if not [case for case in cases if case not in wanted]:
        return TRUE
    index = _best_question(len(questions), cases, wanted)
    with_it = decided(questions, [case for case in cases if case >> index & 1], wanted)
    without_it = decided(questions, [case for case in cases if not case >> index & 1], wanted)
    if with_it == without_it:
        return with_it
    question = questions[index]
    told = either_of(both_of(question, with_it), both_of(negated(question), without_it))
    # If one of both says nothing, the question need not stand twice.
    if with_it == TRUE:
        told = either_of(question, without_it)
    elif without_it == TRUE:
        told = either_of(negated(question), with_it)
    if counted(told) > MOST_NODES:
        raise TooMany(MOST_NODES)
    return told


def _best_question(many, cases, wanted):
    """The first question behind which the fewest cases are left that must be told apart."""
    best = None
    for index in range(many):
        sides = ([], [])
        for case in cases:
            sides[case >> index & 1].append(case in wanted)
        if sides[0] and sides[1]:
            left = sum([len(side) for side in sides if True in side and False in side])
            if best is None or left < best[0]:
                best = (left, index)
    return best[1]
