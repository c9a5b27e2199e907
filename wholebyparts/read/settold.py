"""The set formula of a reader: sets tell the state ahead of each place, one for each bit of its number."""

from wholebyparts.say.formulas import joined

# More pairs of states and letters than these are told one by one.
FEW_STEPS = 2


class Telling:
    """What is said of the states of a least reader: the variables 0 to bits - 1 stand for the sets of the bits.

    The variable `goal` behind them stands for a set of just one place, `place` for one of the place ahead of it. Most
    parts that are said of `place` say that it is one place, too: so the readers of all parts stay small.
    """

    def __init__(self, reader):
        self.reader = reader
        self.states = list(range(reader.states))
        self.bits = (reader.states - 1).bit_length()
        self.goal = self.bits
        self.place = self.bits + 1

    def told(self):
        """The closed formula that holds of the words that the reader takes."""
        if self.bits == 0:
            always = ("all", ("within", 0, 0))
            return always if self.reader.accepting else ("not", always)
        leading = [self.leading(bit) for bit in range(self.bits)]
        formula = ("and", self.gone_on(leading), self.ended(leading))
        for _ in range(self.bits):
            formula = ("some", formula)
        return formula

    def gone_on(self, leading):
        """Each place has just the bits to which the letter of the one ahead of it leads; so the first one has none."""
        x, y, z = self.place, self.goal, self.place + 1
        between = ("some", ("and", ("before", x, z), ("before", z, y)))
        neighbours = ("and", ("before", x, y), ("not", between))
        wrong = []
        for bit, formula in enumerate(leading):
            within, wanted = ("within", y, bit), ("some", ("and", neighbours, formula))
            wrong.append(("and", ("and", ("single", y), within), ("not", wanted)))
            wrong.append(("and", ("not", within), wanted))
        return ("not", ("some", joined("or", wrong)))

    def ended(self, leading):
        """From the last place its letter leads to a state that accepts, or there is no place, if 0 accepts."""
        is_last = ("not", ("some", ("before", self.place, self.place + 1)))
        is_empty_taken = 0 in self.reader.accepting
        goals = [state for state in self.states if (state in self.reader.accepting) != is_empty_taken]
        told = ("and", self.chosen(leading, self.states, goals), is_last)
        # Two bits can be told by "not" alone.
        if self.bits > 1:
            told = ("and", ("single", self.place), told)
        # The first variable is not asked: but for it the place has the same one as elsewhere.
        formula = ("some", ("some", told))
        return ("not", formula) if is_empty_taken else formula

    def leading(self, bit):
        """From the state ahead of the place, which is one alone, its letter leads to a state with the bit."""
        single = ("single", self.place)
        within = [("within", self.place, one) for one in range(self.bits)]
        steps = self.steps_to(bit)
        # Of many parts each one must say that the place is one alone, so that all together stay small.
        is_early = len(steps) > FEW_STEPS
        found = []
        for states, letters in steps:
            told = self.lettered(letters)
            if is_early:
                told = ("and", single, told) if told else single
            if len(states) < len(self.states):
                state = self.chosen(within, self.states, states)
                told = ("and", told, state) if told else state
            found.append(told if told else single)
        formula = joined("or", found)
        return formula if is_early or formula == single else ("and", single, formula)

    def steps_to(self, bit):
        """Few pairs of lists of states and of letters that lead from each of them to a state with the bit: all such."""
        by_letter, by_state = {}, {}
        for letter in range(self.reader.letters):
            states = [state for state, step in enumerate(self.reader.steps) if step[letter] >> bit & 1]
            by_letter.setdefault(tuple(states), []).append(letter)
        for state, step in enumerate(self.reader.steps):
            letters = [letter for letter, goal in enumerate(step) if goal >> bit & 1]
            by_state.setdefault(tuple(letters), []).append(state)
        lots = [(list(states), letters) for states, letters in by_letter.items() if states]
        others = [(states, list(letters)) for letters, states in by_state.items() if letters]
        return lots if len(lots) <= len(others) else others

    def lettered(self, letters):
        """At the place stands one of the letters; None if that is always so."""
        others = [letter for letter in range(self.reader.letters) if letter not in letters]
        if not others:
            return None
        if len(letters) <= len(others):
            return joined("or", [("letter", letter, self.place) for letter in letters])
        return ("not", joined("or", [("letter", letter, self.place) for letter in others]))

    def chosen(self, questions, states, wanted):
        """The state, one of these, is a wanted one, as the questions for its bits tell: neither all nor none are."""
        sides = [([], []) for _ in questions]
        for state in states:
            for bit, parts in enumerate(sides):
                parts[state >> bit & 1].append(state)
        parted = [bit for bit, parts in enumerate(sides) if parts[0] and parts[1]]
        found = []
        for side, formula in zip(sides[parted[0]], (("not", questions[parted[0]]), questions[parted[0]])):
            told = [state for state in side if state in wanted]
            if len(told) == len(side):
                found.append(formula)
            elif told:
                found.append(("and", formula, self.chosen(questions, side, told)))
        return joined("or", found)
