"""Two readers side by side: the pairs of states that are met, and the first word that parts two states."""


def parting_word(one, other, begin):
    """The first word that is taken from just one of two states, each of its reader; None without any."""
    takers = [{state: True for state in reader.accepting} for reader in (one, other)]
    found = _found(one, other, begin, takers)
    last = list(found)[-1]
    if (last[0] in takers[0]) == (last[1] in takers[1]):
        return None
    word = []
    while found[last] is not None:
        last, letter = found[last]
        word.append(letter)
    return tuple(word[::-1])


def pairs_met(one, other, begin):
    """The list of all pairs of states that are met together from the told pair on."""
    # Nothing parts the pairs if no state counts as an accepting one.
    return list(_found(one, other, begin, ({}, {})))


def _found(one, other, begin, takers):
    """For each pair that is met, breadth first, the pair and the letter by which; up to the first that is parted."""
    found = {begin: None}
    waiting = [begin]
    if (begin[0] in takers[0]) != (begin[1] in takers[1]):
        return found
    letters = _letters_apart(one, other)
    while waiting:
        nexts = []
        for pair in waiting:
            step, goals = one.steps[pair[0]], other.steps[pair[1]]
            for letter in letters:
                goal = (step[letter], goals[letter])
                if goal not in found:
                    found[goal] = (pair, letter)
                    if (goal[0] in takers[0]) != (goal[1] in takers[1]):
                        return found
                    nexts.append(goal)
        waiting = nexts
    return found


def _letters_apart(one, other):
    """The letters without those that lead both readers as an earlier one does."""
    firsts = {}
    columns = list(zip(list(zip(*one.steps)), list(zip(*other.steps))))
    for letter, column in enumerate(columns):
        firsts.setdefault(column, letter)
    return list(firsts.values())
