"""Texts of formulas, read word by word."""

from wholebyparts.errors import ParseError
from wholebyparts.say.formulas import MOST_NODES, MOST_WITHIN, NUMBERS, PARTS, QUANTIFIERS, most_depth
from wholebyparts.text.words import number_of


class FormulaParsing:
    """The words of a text, read up to the index; ParseError of the first one with which no text of a formula begins.

    So many nodes are begun, or must still come: each one takes at least one more, so that a word can be too much
    long ahead of the end.
    """

    def __init__(self, signature, free, words):
        self.bounds = {"v": free, "m": signature[0], "l": signature[1]}
        self.free = free
        self.words = words
        self.index = 0
        self.nodes = 1

    def read(self):
        """The formula that all words tell."""
        formula = self.node(0, 1)
        if self.index < len(self.words):
            raise ParseError(self.index)
        return formula

    def next_word(self):
        """The next word."""
        if self.index == len(self.words):
            raise ParseError(self.index)
        self.index += 1
        return self.words[self.index - 1]

    def node(self, depth, within):
        """The node that the next words tell, within so many quantifiers, and so many nodes, itself counted."""
        word = self.next_word()
        if word in NUMBERS:
            return (word, *self.numbers_behind(NUMBERS[word], depth))
        deeper = depth + (1 if word in QUANTIFIERS else 0)
        if word not in PARTS or within == MOST_WITHIN or deeper > most_depth(self.free):
            raise ParseError(self.index - 1)
        self.nodes += PARTS[word]
        if self.nodes > MOST_NODES:
            raise ParseError(self.index - 1)
        return (word, *[self.node(deeper, within + 1) for _ in range(PARTS[word])])

    def numbers_behind(self, signs, depth):
        """The numbers behind the word of an atom; the word itself is wrong if there can be none of them."""
        bounds = [self.bounds[sign] + (depth if sign == "v" else 0) for sign in signs]
        if 0 in bounds:
            raise ParseError(self.index - 1)
        found = []
        for bound in bounds:
            found.append(number_of(self.next_word(), bound))
            if found[-1] is None:
                raise ParseError(self.index - 1)
        return found
