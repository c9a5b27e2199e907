"""The reader of a formula about the whole, made part by part of the formula."""

from wholebyparts.part.rows import NONE
from wholebyparts.read.drafts import Draft, both_draft, draft_of, either_draft, guessed_draft
from wholebyparts.read.drafts import least_draft, led_draft, opposite_draft
from wholebyparts.read.readers import MOST_STATES, Reader
from wholebyparts.say.formulas import NUMBERS
from wholebyparts.shape.letters import pair_letters, single_letters


class Making:
    """Drafts for the parts of formulas about the wholes of a shape over a stock.

    For k free variables the letters are the pairs of a structure of the stock, told by its index, and a row of k
    members of it, ascending. Drafts have numbers: a part that stands often, with equally many variables, is made
    once.
    """

    def __init__(self, shape, stock):
        self.shape = shape
        self.stock = stock
        self.letters = [[(index, ()) for index in range(len(stock))]]
        self.drafts = []
        self.known = {}
        self.tables = {}

    def letters_at(self, free):
        """The letters for so many free variables."""
        while len(self.letters) <= free:
            longer = []
            for index, row in self.letters[-1]:
                longer.extend([(index, row + (member,)) for member in range(NONE, self.stock[index].size)])
            self.letters.append(longer)
        return self.letters[free]

    def draft(self, formula):
        """The least draft of a closed formula; TooMany for more states than a reader has, of any part."""
        return self.drafts[self.number(formula, 0)]

    def number(self, formula, free):
        """The number of the least draft of a part of a formula with so many free variables."""
        word = formula[0]
        if word in NUMBERS:
            key = (free, formula)
        else:
            deeper = free + 1 if word in ("some", "all") else free
            key = (free, word, *[self.number(part, deeper) for part in formula[1:]])
        if key not in self.known:
            if word in NUMBERS:
                told = self.atom(formula, free)
            else:
                told = self.made(word, [self.drafts[number] for number in key[2:]], free)
            self.drafts.append(least_draft(told, MOST_STATES))
            self.known[key] = len(self.drafts) - 1
        return self.known[key]

    def made(self, word, parts, free):
        """The draft that the word makes of those of its parts."""
        if word == "not":
            return opposite_draft(parts[0])
        if word == "and":
            return both_draft(parts[0], parts[1], MOST_STATES)
        if word == "or":
            return either_draft(parts[0], parts[1], MOST_STATES)
        if word == "some":
            return self.some(parts[0], free)
        return opposite_draft(self.some(opposite_draft(parts[0]), free))

    def some(self, draft, free):
        """The draft that guesses the member of one variable more at each letter: together they are an element."""
        domain = self.by_rule("domain", 0, self.shape.domain, (free,), free + 1)
        both = least_draft(both_draft(draft, domain))
        lots = []
        first = 0
        for index, _ in self.letters_at(free):
            lots.append(list(range(first, first + self.stock[index].size + 1)))
            first += self.stock[index].size + 1
        return guessed_draft(both, lots, MOST_STATES)

    def atom(self, atom, free):
        """The draft of an atom."""
        word = atom[0]
        if word == "mark":
            return self.by_rule(word, atom[1], self.shape.marks[atom[1]], atom[2:], free)
        if word == "link":
            return self.by_rule(word, atom[1], self.shape.links[atom[1]], atom[2:], free)
        letters = self.letters_at(free)
        if word == "same":
            # Things are the same if at each part their members are.
            reader = Reader(2, ((0, 1), (1, 1)), (0,))
            return led_draft(draft_of(reader), [0 if row[atom[1]] == row[atom[2]] else 1 for _, row in letters])
        # No element of a whole is none, also if its members are.
        return Draft([0] * len(letters), [(0,)], [word == "true"])

    def by_rule(self, word, index, rule, variables, free):
        """The draft of what a rule tells of the variables: a letter acts by the tests that hold there."""
        if (word, index) not in self.tables:
            call = single_letters if len(variables) == 1 else pair_letters
            self.tables[(word, index)] = [call(rule, structure) for structure in self.stock]
        tables = self.tables[(word, index)]
        told = [tables[place][row[variables[0]]] for place, row in self.letters_at(free)]
        if len(variables) == 2:
            told = [letters[row[variables[1]]] for letters, (_, row) in zip(told, self.letters_at(free))]
        return led_draft(draft_of(rule[1]), told)
