"""The cases of a part: all that a formula about the whole can see of a structure, whatever its size.

At the level k, within k quantifiers, a case tells of a part with a row of k members: which tests hold there, which
lots of cases of the next level the rows with an element behind have, and which one the row with none behind has. A
lot is what no formula within a quantifier can tell apart.
"""

from wholebyparts.errors import TooMany
from wholebyparts.main.deciding import decided
from wholebyparts.part.rows import NONE
from wholebyparts.say.formulas import NEVER, with_order
from wholebyparts.say.levels import holds_at
from wholebyparts.say.settled import TRUE, negated, settled, some_of

# So many cases of one level are looked at, and so many lots behind a row, before this is too much.
MOST_CASES = 600
MOST_LOTS = 9
MOST_UNTOLD = 9
MOST_FORMULAS = 64


class Level:
    """The cases of one level: numbers with a bit for each question, those of the tests first.

    `last` tells for each case whether the last member of the row can be an element, whether it can be none, and
    whether it can be the same element as the one ahead of it.
    `lots` has for each case the lots behind: those with some element, and that with none. `references` tells where
    the answer to a test of a rule is found: the index of a question, and whether its answer is turned; without an
    index it is always the same.
    """

    def __init__(self, free):
        self.free = free
        self.tests = []
        self.references = {}
        self.shared = []
        self.questions = []
        self.cases = []
        self.last = []
        self.lots = []

    def add_rule(self, key, tests, variables):
        """The tests of a rule, asked of the variables, are questions from now on."""
        if key not in self.references:
            order = (*variables, self.free)
            told = [settled(with_order(test, order), list(range(5)), self.free) for test in tests]
            self.references[key] = [self.reference(test) for test in told]

    def reference(self, test):
        """Where the answer to the test is found; it becomes a question if it is none yet."""
        if test in (TRUE, NEVER):
            return (None, test == NEVER)
        is_turned = test[0] == "not"
        if is_turned:
            test = negated(test)
        if test not in self.tests:
            self.tests.append(test)
        return (self.tests.index(test), is_turned)

    def add_shared(self, level):
        """What the next level asks without its last variable is asked here, too, as it goes on holding there."""
        names = [*range(self.free), NONE, *range(self.free, 5)]
        for index, test in enumerate(list(level.tests)):
            if not _names(test, self.free):
                self.shared.append((index, self.reference(settled(test, names, self.free))))

    def letter(self, key, case):
        """The letter of a rule at a case."""
        bits = [answered(reference, case) << index for index, reference in enumerate(self.references[key])]
        return sum(bits)

    def begin(self):
        """The cases by the tests alone: those that some pattern of nones and equal members lets."""
        found = {}
        for pattern in patterns(self.free):
            names = [*pattern, *range(self.free, 5)]
            told = _of_last(pattern)
            for case in _answers([settled(test, names, 0, self.free) for test in self.tests]):
                found[case] = [one or other for one, other in zip(found.get(case, [False] * 3), told)]
            if len(found) > MOST_CASES:
                raise TooMany(MOST_FORMULAS)
        self.questions = list(self.tests)
        self.cases = sorted(found)
        self.last = [tuple(found[case]) for case in self.cases]
        self.lots = [None] * len(self.cases)

    def go_on(self, level, classes):
        """Part the cases by what is behind: `classes` has for each case of the next level the number of its lot."""
        many = max(classes) + 1
        told = [level.told_behind(classes, number) for number in range(many)]
        base = len(self.tests)
        self.questions = [*self.tests, *[some for some, _ in told], *[none for _, none in told]]
        clues = Clues(self.questions, base, many)
        cases, last, lots = [], [], []
        for case, sides in zip(self.cases, self.last):
            behind, nones, again = self.lots_behind(case, level, classes)
            if len(behind) > MOST_LOTS:
                raise TooMany(MOST_FORMULAS)
            for none in nones:
                for lot in _lots_of(behind):
                    bits = sum([1 << one for one in lot]) + (1 << many + none)
                    # An element stands behind itself, too.
                    here = sides[0] and (self.free == 0 or [one for one in lot if one in again] != [])
                    if (here or sides[1]) and clues.fit(case + (bits << base)):
                        cases.append(case + (bits << base))
                        last.append((here, sides[1], here and sides[2]))
                        lots.append((lot, none))
            if len(cases) > MOST_CASES:
                raise TooMany(MOST_FORMULAS)
        self.cases, self.last, self.lots = cases, last, lots

    def lots_behind(self, case, level, classes):
        """The numbers of the lots that elements behind the row can have, that none can, that its last member can."""
        fitting = [index for index, longer in enumerate(level.cases) if self.fits(case, longer)]
        return [sorted({classes[index] for index in fitting if level.last[index][side]}) for side in range(3)]

    def fits(self, case, longer):
        """Whether a case of the next level answers alike what both levels ask."""
        return not [index for index, told in self.shared if longer >> index & 1 != answered(told, case)]

    def told_behind(self, classes, number):
        """What tells, one level up, that some element has a case of the lot behind the row, and that none has."""
        wanted = {case: True for case, told in zip(self.cases, classes) if told == number}
        told = []
        for side in (0, 1):
            cases = [case for case, sides in zip(self.cases, self.last) if sides[side]]
            told.append(decided(self.questions, cases, wanted))
        above = self.free - 1
        names = [*range(above), NONE, *range(above, 5)]
        return (some_of(settled(told[0], list(range(5)), above)), settled(told[1], names, above))

    def case_of(self, structure):
        """The case of a structure, by its answers: for the level 0."""
        answers = [holds_at(structure, (), question) for question in self.questions]
        return sum([1 << index for index, answer in enumerate(answers) if answer])

    def formula(self, wanted):
        """What tells the wanted cases, a list, from all others."""
        return decided(self.questions, self.cases, {case: True for case in wanted})


class Clues:
    """What is known of the answers to the questions of a level together.

    Behind the tests stand so many questions whether some element has a lot, then so many whether none has it.
    """

    def __init__(self, questions, base, many):
        self.references = _references(questions)[1]
        self.lot_bits = ((1 << many) - 1) << base
        self.filled = [index for index, question in enumerate(questions) if question == ("some", TRUE)]

    def fit(self, case):
        """Whether the answers do not plainly go against one another."""
        found = {}
        for index, (base, is_turned) in enumerate(self.references):
            told = case >> index & 1 ^ (1 if is_turned else 0)
            if found.setdefault(base, 1 if base is None else told) != told:
                return False
        is_filled = 1 if case & self.lot_bits else 0
        return not [index for index in self.filled if case >> index & 1 != is_filled]


def answered(reference, case):
    """The answer, 1 or 0, of the case where the reference says."""
    index, is_turned = reference
    if index is None:
        return 0 if is_turned else 1
    return case >> index & 1 ^ (1 if is_turned else 0)


def patterns(many):
    """All ways in which so many members can be none, or equal: each is none, or has the name of the first equal one."""
    found = [()]
    for place in range(many):
        found = [one + (name,) for one in found for name in [NONE, *sorted({x for x in one if x != NONE}), place]]
    return found


def _names(formula, variable):
    """Whether the variable stands in the formula."""
    return with_order(formula, list(range(variable)) + [-2]) != formula


def _of_last(pattern):
    """Whether the last member of a pattern is an element, whether it is none, whether it is the one ahead of it."""
    is_none = pattern != () and pattern[-1] == NONE
    return (not is_none, is_none, not is_none and len(pattern) > 1 and pattern[-1] == pattern[-2])


def _references(formulas):
    """The list of the formulas, each once and without "not", and for each where its answer is found in it."""
    bases = []
    references = []
    for formula in formulas:
        base = negated(formula) if formula[0] == "not" else formula
        if base != TRUE and base not in bases:
            bases.append(base)
        references.append((None if base == TRUE else bases.index(base), formula[0] == "not"))
    return (bases, references)


def _answers(formulas):
    """The numbers with a bit for each of the formulas that can hold together: equal ones hold alike."""
    bases, references = _references(formulas)
    if len(bases) > MOST_UNTOLD:
        raise TooMany(MOST_FORMULAS)
    found = []
    for told in range(1 << len(bases)):
        found.append(sum([answered(reference, told) << index for index, reference in enumerate(references)]))
    return sorted(set(found))


def _lots_of(numbers):
    """All lots of the numbers, as lists."""
    lots = [[]]
    for number in numbers:
        lots = lots + [[*lot, number] for lot in lots]
    return lots
