"""Whether short words already part more pairs of states than a reader can have states.

Two readers of many states and letters meet so many pairs that they take long to be listed, and mostly in vain.
"""

from wholebyparts.errors import TooMany
from wholebyparts.read.lots import numbered

MOST_LOOKED_AT = 4000
MOST_TRIED = 100


def check_apart(one, other, most):
    """TooMany of the most if short words that both drafts take part more pairs of states than that.

    Just so many pairs are looked at as can be met soon; with few pairs nothing is asked.
    """
    if len(one.steps) * len(other.steps) <= MOST_LOOKED_AT:
        return
    looks = numbered(list(zip(one.looks, other.looks)))[1]
    taken = _taken(one, [look for look, _ in looks])
    others = _taken(other, [look for _, look in looks])
    apart = {taken[a] & others[b]: True for a, b in _some_pairs(one, other, looks)}
    if len(apart) > most:
        raise TooMany(most)


def _some_pairs(one, other, looks):
    """The pairs of states that are met first."""
    waiting = [(0, 0)]
    found = {(0, 0): True}
    index = 0
    while index < len(waiting) and len(found) < MOST_LOOKED_AT:
        step, goals = one.steps[waiting[index][0]], other.steps[waiting[index][1]]
        for look, second in looks:
            pair = (step[look], goals[second])
            if pair not in found:
                found[pair] = True
                waiting.append(pair)
        index += 1
    return waiting


def _taken(draft, looks):
    """For each state the number with a bit for each short word that is taken from there."""
    words = [[1 if accepts else 0 for accepts in draft.accepting]]
    index = 0
    while len(words) < MOST_TRIED:
        # Longer words begin with one letter more.
        for look in looks:
            words.append([words[index][step[look]] for step in draft.steps])
        index += 1
    told = [0] * len(draft.steps)
    for word in words:
        told = [bits << 1 | bit for bits, bit in zip(told, word)]
    return told
