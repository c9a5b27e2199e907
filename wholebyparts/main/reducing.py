"""The reduction of a formula about the whole: cases of a part, and the draft that reads them."""

from wholebyparts.errors import TooMany
from wholebyparts.main.cases import MOST_FORMULAS, Level
from wholebyparts.read.drafts import Draft, both_draft, draft_of, either_draft, guessed_draft, least_draft, led_draft
from wholebyparts.read.drafts import opposite_draft, reader_from
from wholebyparts.read.lots import numbered
from wholebyparts.read.readers import MOST_STATES, Reader
from wholebyparts.say.formulas import NUMBERS, QUANTIFIERS, bounded

EQUAL = ("same", 0, 1)


class Reducing:
    """Drafts over cases for the parts of a formula about the wholes of a shape, from the innermost level out.

    A node is (free, word, numbers): those of an atom, or of the nodes that are its parts. Equal nodes are one.
    """

    def __init__(self, shape, formula):
        self.shape = shape
        self.nodes = []
        self.known = {}
        self.top = self.node(formula, 0)
        deepest = max([free for free, _, _ in self.nodes])
        self.levels = [Level(free) for free in range(deepest + 1)]
        self.drafts = {}
        self.guessed = {}
        self.ask()
        for free in range(deepest, -1, -1):
            self.add_level(free)

    def node(self, formula, free):
        """The number of the node that the formula is."""
        word = formula[0]
        if word in NUMBERS:
            key = (free, word, formula[1:])
        else:
            deeper = free + 1 if word in QUANTIFIERS else free
            key = (free, word, tuple([self.node(part, deeper) for part in formula[1:]]))
        if key not in self.known:
            self.known[key] = len(self.nodes)
            self.nodes.append(key)
        return self.known[key]

    def ask(self):
        """Put the tests of all atoms, and of the domain for what is guessed, as questions to their levels."""
        for free, word, numbers in self.nodes:
            if word in ("mark", "link", "same"):
                tests = (EQUAL,) if word == "same" else self.rule(word, numbers)[0]
                variables = numbers if word == "same" else numbers[1:]
                self.levels[free].add_rule((word, numbers), tests, variables)
        for free in range(len(self.levels) - 1, 0, -1):
            self.levels[free].add_rule(("domain", ()), self.shape.domain[0], (free - 1,))
            self.levels[free - 1].add_shared(self.levels[free])

    def rule(self, word, numbers):
        """The rule of a mark or a link of the whole."""
        return self.shape.marks[numbers[0]] if word == "mark" else self.shape.links[numbers[0]]

    def add_level(self, free):
        """Find the cases of the level, then the drafts of its nodes."""
        level = self.levels[free]
        level.begin()
        if free + 1 < len(self.levels):
            self.guess(level, self.levels[free + 1])
        for number, (at, word, numbers) in enumerate(self.nodes):
            if at == free:
                self.drafts[number] = least_draft(self.made(number, word, numbers, level))

    def guess(self, level, deeper):
        """Part the cases of the level by what stands behind, and guess for each quantifier what it asks for."""
        domain = self.by_rule(deeper, ("domain", ()), self.shape.domain[1])
        guessing = {}
        for number, (free, word, parts) in enumerate(self.nodes):
            if free == level.free and word in QUANTIFIERS:
                draft = self.drafts[parts[0]]
                asked = draft if word == "some" else opposite_draft(draft)
                guessing[number] = least_draft(both_draft(asked, domain, MOST_STATES))
        columns = [draft.looks for draft in guessing.values()]
        classes = numbered(list(zip(*columns)))[0]
        level.go_on(deeper, classes)
        firsts = [classes.index(one) for one in range(max(classes) + 1)]
        lots = [[firsts[one] for one in [*lot, none]] for lot, none in level.lots]
        for number, draft in guessing.items():
            self.guessed[number] = guessed_draft(draft, lots, MOST_STATES)

    def made(self, number, word, parts, level):
        """The draft of a node."""
        if word in QUANTIFIERS:
            return self.guessed[number] if word == "some" else opposite_draft(self.guessed[number])
        if word == "not":
            return opposite_draft(self.drafts[parts[0]])
        if word == "and":
            return both_draft(self.drafts[parts[0]], self.drafts[parts[1]], MOST_STATES)
        if word == "or":
            return either_draft(self.drafts[parts[0]], self.drafts[parts[1]], MOST_STATES)
        if word == "same":
            # Things are the same if at each part their members are.
            return self.by_rule(level, (word, parts), Reader(2, ((1, 0), (1, 1)), (0,)))
        if word in ("mark", "link"):
            return self.by_rule(level, (word, parts), self.rule(word, parts)[1])
        # No element of a whole is none, also if its members are.
        return Draft([0] * len(level.cases), [(0,)], [word == "true"])

    def by_rule(self, level, key, reader):
        """The draft of what the reader of a rule takes of the cases of the level."""
        return led_draft(draft_of(reader), [level.letter(key, case) for case in level.cases])

    def told(self):
        """The list of the formulas of the cases, and the reader of them."""
        draft = self.drafts[self.top]
        merged = Draft(list(range(len(draft.steps[0]))), draft.steps, draft.accepting)
        if len(merged.looks) > MOST_FORMULAS:
            raise TooMany(MOST_FORMULAS)
        try:
            return (self.formulas(draft.looks), reader_from(merged))
        except TooMany:
            # What tells few large lots of cases can be longer than what tells each case.
            if len(draft.looks) > MOST_FORMULAS:
                raise
        return (self.formulas(list(range(len(draft.looks)))), reader_from(draft))

    def formulas(self, looks):
        """For each look the formula that tells the cases that have it."""
        return [self.formula([one == look for one in looks]) for look in range(max(looks) + 1)]

    def formula(self, answers):
        """The formula that tells the cases of which the answer, one for each case, is True."""
        level = self.levels[0]
        return bounded(level.formula([case for case, answer in zip(level.cases, answers) if answer]))

    def between(self, ahead, behind):
        """The formula that tells what stands between the parts, so that the whole has the formula."""
        draft = self.drafts[self.top]
        state = self.led_on(0, ahead)
        fitting = [draft.accepting[self.led_on(goal, behind)] for goal in draft.steps[state]]
        return self.formula([fitting[look] for look in draft.looks])

    def led_on(self, state, parts):
        """The state of the draft of the whole formula to which the parts lead from the state."""
        draft = self.drafts[self.top]
        for part in parts:
            place = self.levels[0].cases.index(self.levels[0].case_of(part))
            state = draft.steps[state][draft.looks[place]]
        return state
