"""The cases of a part: all that a formula about the whole can see of a structure, whatever its size.

At the level k, within k quantifiers, a case tells of a part with a row of k members: which tests hold there, which
lots of cases of the next level the rows with an element behind have, and which one the row with none behind has. A
lot is what no formula within a quantifier can tell apart.
"""

from wholebyparts.errors import TooMany
from wholebyparts.main.deciding import decided
from wholebyparts.part.rows import NONE
from wholebyparts.say.formulas import NEVER, with_order
from wholebyparts.say.levels import holds_at
from wholebyparts.say.settled import TRUE, negated, settled, some_of

# So many cases of one level are looked at, and so many lots behind a row, before this is too much.
MOST_CASES = 1000
MOST_LOTS = 10
MOST_UNTOLD = 9
# No variable, free or bound, has a greater number than the next lesser one.
MOST_NUMBERS = 5
MOST_FORMULAS = 64


class Level:
    """The cases of one level: numbers with a bit for each question, those of the tests first.

    `patterns` has for each case those patterns of the row's members with which nothing is known to go against it.
    `lots` has for each case the lots behind: those with some element, and that with none. `references` tells where
    the answer to a test of a rule is found: the index of a question, and whether its answer is turned; without an
    index it is always the same.
    """

    def __init__(self, free):
        self.free = free
        self.tests = []
        self.references = {}
        self.shared = []
        self.questions = []
        self.cases = []
        self.patterns = []
        self.lots = []

    def add_rule(self, key, tests, variables):
        """The tests of a rule, asked of the variables, are questions from now on."""
        if key not in self.references:
            order = (*variables, self.free)
            told = [settled(with_order(test, order), list(range(MOST_NUMBERS)), self.free) for test in tests]
            self.references[key] = [self.reference(test) for test in told]

    def reference(self, test):
        """Where the answer to the test is found; it becomes a question if it is none yet."""
        if test in (TRUE, NEVER):
            return (None, test == NEVER)
        is_turned = test[0] == "not"
        if is_turned:
            test = negated(test)
        if test not in self.tests:
            self.tests.append(test)
        return (self.tests.index(test), is_turned)

    def add_shared(self, level):
        """What the next level asks without its last variable is asked here, too, as it goes on holding there."""
        names = _without_last(self.free)
        for index, test in enumerate(list(level.tests)):
            if not _names(test, self.free):
                self.shared.append((index, self.reference(settled(test, names, self.free))))

    def letter(self, key, case):
        """The letter of a rule at a case."""
        bits = [answered(reference, case) << index for index, reference in enumerate(self.references[key])]
        return sum(bits)

    def begin(self):
        """The cases by the tests alone: those that some pattern of nones and equal members lets."""
        found = {}
        for pattern in patterns_of(self.free):
            names = list(pattern) + list(range(self.free, MOST_NUMBERS))
            for case in _answers([settled(test, names, 0, self.free) for test in self.tests]):
                found.setdefault(case, []).append(pattern)
            if len(found) > MOST_CASES:
                raise TooMany(MOST_FORMULAS)
        self.questions = list(self.tests)
        self.cases = sorted(found)
        self.patterns = [found[case] for case in self.cases]
        self.lots = [None] * len(self.cases)

    def go_on(self, level, classes):
        """Part the cases by what is behind: `classes` has for each case of the next level the number of its lot."""
        many = max(classes) + 1
        told = [level.told_behind(classes, number) for number in range(many)]
        base = len(self.tests)
        self.questions = [*self.tests, *[some for some, _ in told], *[none for _, none in told]]
        clues = Clues(self.questions, base, many)
        cases, patterns, lots = [], [], []
        for case, lets in zip(self.cases, self.patterns):
            fitting = [index for index, longer in enumerate(level.cases) if self.fits(case, longer)]
            sights = [Sight(pattern, level, classes, fitting) for pattern in lets]
            for lot, none in _behind(sights):
                kept = [sight.pattern for sight in sights if sight.lets(lot, none)]
                longer = case + (sum([1 << one for one in lot]) + (1 << many + none) << base)
                if kept and clues.fit(longer):
                    cases.append(longer)
                    patterns.append(kept)
                    lots.append((lot, none))
            if len(cases) > MOST_CASES:
                raise TooMany(MOST_FORMULAS)
        self.cases, self.patterns, self.lots = cases, patterns, lots

    def fits(self, case, longer):
        """Whether a case of the next level answers alike what both levels ask."""
        return not [index for index, told in self.shared if longer >> index & 1 != answered(told, case)]

    def told_behind(self, classes, number):
        """What tells, one level up, that some element has a case of the lot behind the row, and that none has."""
        wanted = {case: True for case, told in zip(self.cases, classes) if told == number}
        told = []
        for is_none in (False, True):
            cases = [case for case, lets in zip(self.cases, self.patterns) if _has_last(lets, is_none)]
            told.append(decided(self.questions, cases, wanted))
        above = self.free - 1
        some = settled(told[0], list(range(MOST_NUMBERS)), above)
        return (some_of(some), settled(told[1], _without_last(above), above))

    def case_of(self, structure):
        """The case of a structure, by its answers: for the level 0."""
        answers = [holds_at(structure, (), question) for question in self.questions]
        return sum([1 << index for index, answer in enumerate(answers) if answer])

    def formula(self, wanted):
        """What tells the wanted cases, a list, from all others."""
        return decided(self.questions, self.cases, {case: True for case in wanted})


class Sight:
    """What is known of the lots behind a row whose members have the pattern, by the fitting cases of the next level.

    `by_name` has for each name of a member behind the lots that it can have, `surely` those that no other one can;
    `lots` are those of all elements behind, `nones` those of none.
    """

    def __init__(self, pattern, level, classes, fitting):
        self.pattern = pattern
        self.by_name = {}
        for index in fitting:
            for longer in level.patterns[index]:
                if longer[:-1] == pattern:
                    self.by_name.setdefault(longer[-1], {})[classes[index]] = True
        self.names = sorted({name for name in pattern if name != NONE})
        self.surely = {name: self.only(name) for name in self.names}
        told = [one for name, lots in self.by_name.items() if name != NONE for one in lots]
        self.lots = sorted(set(told))
        self.nones = sorted(self.by_name.get(NONE, {}))

    def only(self, name):
        """The lots that a member behind has only if it has the name."""
        others = [lots for other, lots in self.by_name.items() if other not in (name, NONE)]
        return [one for one in self.by_name.get(name, {}) if not [lots for lots in others if one in lots]]

    def lets(self, lot, none):
        """Whether elements behind can have just these lots, and none this one: each member of the row is behind it."""
        if none not in self.nones or [one for one in lot if one not in self.lots]:
            return False
        for name in self.names:
            if not [one for one in lot if one in self.by_name.get(name, {})]:
                return False
            if len([one for one in lot if one in self.surely[name]]) > 1:
                return False
        return True


def _behind(sights):
    """All pairs of the lots, as a list, that elements behind a row can have, and of that which none behind can."""
    every = sorted({one for sight in sights for one in sight.lots})
    nones = sorted({one for sight in sights for one in sight.nones})
    if len(every) > MOST_LOTS:
        raise TooMany(MOST_FORMULAS)
    return [(lot, none) for none in nones for lot in _lots_of(every)]


class Clues:
    """What is known of the answers to the questions of a level together.

    Behind the tests stand so many questions whether some element has a lot, then so many whether none has it.
    """

    def __init__(self, questions, base, many):
        self.references = _references(questions)[1]
        self.lot_bits = ((1 << many) - 1) << base
        self.filled = [index for index, question in enumerate(questions) if question == ("some", TRUE)]

    def fit(self, case):
        """Whether the answers do not plainly go against one another."""
        found = {}
        for index, (base, is_turned) in enumerate(self.references):
            told = case >> index & 1 ^ (1 if is_turned else 0)
            if found.setdefault(base, 1 if base is None else told) != told:
                return False
        is_filled = 1 if case & self.lot_bits else 0
        return not [index for index in self.filled if case >> index & 1 != is_filled]


def answered(reference, case):
    """The answer, 1 or 0, of the case where the reference says."""
    index, is_turned = reference
    if index is None:
        return 0 if is_turned else 1
    return case >> index & 1 ^ (1 if is_turned else 0)


def patterns_of(many):
    """All ways in which so many members can be none, or equal: each is none, or has the name of the first equal one."""
    found = [()]
    for place in range(many):
        found = [one + (name,) for one in found for name in [NONE, *sorted({x for x in one if x != NONE}), place]]
    return found


def _without_last(variable):
    """The names by which the variable is none, and those that are bound behind it move down."""
    return list(range(variable)) + [NONE] + list(range(variable, MOST_NUMBERS))


def _names(formula, variable):
    """Whether the variable stands in the formula."""
    return with_order(formula, list(range(variable)) + [-2]) != formula


def _has_last(patterns, is_none):
    """Whether some of the patterns has none last, or an element."""
    return [pattern for pattern in patterns if (pattern[-1] == NONE) == is_none] != []


def _references(formulas):
    """The list of the formulas, each once and without "not", and for each where its answer is found in it."""
    bases = []
    references = []
    for formula in formulas:
        base = negated(formula) if formula[0] == "not" else formula
        if base != TRUE and base not in bases:
            bases.append(base)
        references.append((None if base == TRUE else bases.index(base), formula[0] == "not"))
    return (bases, references)


def _answers(formulas):
    """The numbers with a bit for each of the formulas that can hold together: equal ones hold alike."""
    bases, references = _references(formulas)
    if len(bases) > MOST_UNTOLD:
        raise TooMany(MOST_FORMULAS)
    found = []
    for told in range(1 << len(bases)):
        found.append(sum([answered(reference, told) << index for index, reference in enumerate(references)]))
    return sorted(set(found))


def _lots_of(numbers):
    """All lots of the numbers, as lists."""
    lots = [[]]
    for number in numbers:
        lots = lots + [[*lot, number] for lot in lots]
    return lots
