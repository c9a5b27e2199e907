"""Values near right ones: members dropped, doubled, exchanged, bent, True in the place of 1."""


def bent(value):
    """All values that are like this one but for one place, wherever it stands."""
    if isinstance(value, tuple):
        return bent_tuples(value)
    if isinstance(value, bool) or value is None:
        return [0, 1, ()]
    if isinstance(value, int):
        found = [value + 1, value - 1, None, (value,), str(value)]
        return found + [value == 1] if value in (0, 1) else found
    if isinstance(value, str):
        return [value + "x", value[:-1], value.upper(), None, (value,)]
    return [None, (value,)]


def bent_tuples(value):
    found = [list(value), (*value, ()), (*value, 0), ((), *value), None]
    for place, member in enumerate(value):
        ahead, behind = value[:place], value[place + 1:]
        found.append(ahead + behind)
        found.append(ahead + (member, member) + behind)
        if behind:
            found.append(ahead + (behind[0], member) + behind[1:])
        found.extend([ahead + (other,) + behind for other in bent(member)])
    return found


def exact(one, other):
    """Equality for which True is not 1, wherever it stands."""
    if isinstance(one, tuple) and isinstance(other, tuple):
        return len(one) == len(other) and all(exact(a, b) for a, b in zip(one, other))
    return type(one) is type(other) and one == other


def is_plain_word(letters, value):
    """Whether the value is a word of so many letters."""
    return isinstance(value, tuple) and len(value) <= 2000 and all(type(x) is int and 0 <= x < letters for x in value)
