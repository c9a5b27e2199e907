"""The set formula of a reader: sets tell the state ahead of each place, one for each bit of its number."""

from wholebyparts.say.formulas import joined


class Telling:
    """What is said of the states of a reader: the variables 0 to bits - 1 stand for the sets of the bits.

    The variable `place` behind them stands for a set of just one place. Each part that is said of it says that,
    too: so the readers of all parts stay small.
    """

    def __init__(self, reader):
        self.reader = reader
        self.bits = (reader.states - 1).bit_length()
        self.place = self.bits

    def told(self):
        """The closed formula that holds of the words that the reader takes."""
        if self.bits == 0:
            always = ("all", ("within", 0, 0))
            return always if self.reader.accepting else ("not", always)
        found = [self.begun(), self.gone_on(), *self.ended()]
        if 0 not in self.reader.accepting:
            found.append(("some", ("single", self.place)))
        formula = joined("and", found)
        for _ in range(self.bits):
            formula = ("some", formula)
        return formula

    def begun(self):
        """No first place has another state than 0 ahead."""
        first = ("and", ("single", self.place), ("not", ("some", ("before", self.place + 1, self.place))))
        other = joined("or", [("within", self.place, bit) for bit in range(self.bits)])
        return ("not", ("some", ("and", first, other)))

    def gone_on(self):
        """No place has behind it one whose state ahead is not the one to which its letter leads."""
        x, y, z = self.place, self.place + 1, self.place + 2
        between = ("some", ("and", ("before", x, z), ("before", z, y)))
        wrong = []
        for bit in range(self.bits):
            within = ("within", y, bit)
            for goals, told in (self.with_bit(bit, 1), ("not", within)), (self.with_bit(bit, 0), within):
                wrong.extend([("and", formula, ("and", ("single", y), told)) for formula in self.leading(goals)])
        neighbours = ("and", ("before", x, y), ("not", between))
        return ("not", ("some", ("some", ("and", neighbours, joined("or", wrong)))))

    def with_bit(self, bit, worth):
        """The states whose numbers have the told bit."""
        return [state for state in range(self.reader.states) if state >> bit & 1 == worth]

    def ended(self):
        """A list with the formula that from no last place a letter leads to a state that does not accept."""
        last = ("and", ("single", self.place), ("not", ("some", ("before", self.place, self.place + 1))))
        goals = [state for state in range(self.reader.states) if state not in self.reader.accepting]
        return [("not", ("some", ("and", last, formula))) for formula in self.leading(goals)]

    def leading(self, goals):
        """A list with the formula that from the state ahead of the place its letter leads to one of the goals.

        Without a state that leads there, the list is empty.
        """
        found = []
        for state, step in enumerate(self.reader.steps):
            letters = [letter for letter, goal in enumerate(step) if goal in goals]
            if letters:
                told = joined("or", [("letter", letter, self.place) for letter in letters])
                found.append(joined("and", [("single", self.place), *self.ahead(state), told]))
        return [joined("or", found)] if found else []

    def ahead(self, state):
        """The formulas that the state is the one ahead of the place."""
        told = [("within", self.place, bit) for bit in range(self.bits)]
        return [one if state >> bit & 1 else ("not", one) for bit, one in enumerate(told)]
