"""Words of texts: numbers and pairs of numbers."""

from wholebyparts.checks import is_ascending

# No number of a text has more digits.
MOST_DIGITS = 3


def said_numbers(numbers):
    """The words of the numbers."""
    return [f"{number}" for number in numbers]


def said_pairs(pairs):
    """The words of the pairs."""
    return [f"{a}-{b}" for a, b in pairs]


def number_of(word, many):
    """The number below `many` that the word says, None if it says none."""
    if not word.isdigit() or len(word) > MOST_DIGITS or (word[0] == "0" and word != "0"):
        return None
    return int(word) if int(word) < many else None


def numbers_of(words, many, has_sequence):
    """The tuple of the numbers below `many` that the words say, None unless each says one; ascending if told so."""
    return _all_told([number_of(word, many) for word in words], has_sequence)


def pairs_of(words, many):
    """The ascending tuple of the pairs of numbers below `many` that the words say, None unless each says one."""
    return _all_told([_pair_of(word, many) for word in words], True)


def _pair_of(word, many):
    parts = [number_of(part, many) for part in word.split("-")]
    return None if len(parts) != 2 or None in parts else tuple(parts)


def _all_told(found, has_sequence):
    if None in found or (has_sequence and not is_ascending(found)):
        return None
    return tuple(found)
