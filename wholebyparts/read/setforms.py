"""Set formulas: which values are some, and where they hold."""

from wholebyparts.say.levels import RowLevels

MOST_AT_ONCE = 6
MOST_WITHIN = 100

# What follows the word of a plain form: a is a letter, v a variable.
PLAIN = {"letter": "av", "within": "vv", "single": "v", "before": "vv"}
# How many set formulas follow the word of every other node.
PARTS = {"not": 1, "and": 2, "or": 2, "some": 1, "all": 1}
QUANTIFIERS = ("some", "all")


def is_well_formed(letters, free, value, most):
    """Whether the value is a set formula of at most so many nodes."""
    waiting = [(value, free, 1)]
    counted = 0
    # Nodes are counted while the value is met, as a value can hold one tuple endlessly often.
    while waiting:
        node, bound, within = waiting.pop()
        counted += 1
        if counted > most or within > MOST_WITHIN or bound > MOST_AT_ONCE:
            return False
        if not isinstance(node, tuple) or not node or not isinstance(node[0], str):
            return False
        if node[0] in PLAIN:
            if not _is_plain(letters, bound, node):
                return False
        elif node[0] not in PARTS or len(node) != PARTS[node[0]] + 1:
            return False
        else:
            deeper = bound + (1 if node[0] in QUANTIFIERS else 0)
            waiting.extend([(part, deeper, within + 1) for part in node[1:]])
    return True


def _is_plain(letters, bound, node):
    """Whether a tuple that begins with the word of a plain form is one with so many variables at hand."""
    signs = PLAIN[node[0]]
    if len(node) != len(signs) + 1:
        return False
    for sign, number in zip(signs, node[1:]):
        # This is asked of many nodes: so nothing is called for each number.
        if type(number) is not int or number < 0 or number >= (letters if sign == "a" else bound):
            return False
    return True


def quantified(formula):
    """How many quantifiers stand within one another."""
    if formula[0] in PLAIN:
        return 0
    deepest = max([quantified(part) for part in formula[1:]])
    return deepest + (1 if formula[0] in QUANTIFIERS else 0)


class SetLevels(RowLevels):
    """Rows of sets of places of a word; quantifiers go over all sets of places.

    A set is a number with a bit for each place.
    """

    def __init__(self, letters, word, row):
        super().__init__([row])
        self.length = len(word)
        self.places = [0] * letters
        for place, letter in enumerate(word):
            self.places[letter] = self.places[letter] | 1 << place

    def longer(self, row):
        """The row with each set of places behind it."""
        return [row + (places,) for places in range(1 << self.length)]

    def tells(self, row, atom):
        """Whether the plain form holds at the row."""
        word, first = atom[0], row[atom[-1]]
        if word == "letter":
            return first & self.places[atom[1]] == first
        if word == "within":
            return row[atom[1]] & first == row[atom[1]]
        if word == "single":
            return is_single(first)
        return is_single(row[atom[1]]) and is_single(first) and row[atom[1]] < first


def places_of(places):
    """The number with a bit for each of the places."""
    told = 0
    for place in places:
        told = told | 1 << place
    return told


def is_single(places):
    """Whether the number has just one bit."""
    return places > 0 and places & (places - 1) == 0
