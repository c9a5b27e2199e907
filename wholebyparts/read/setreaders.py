"""The readers of set formulas, made part by part."""

from wholebyparts.read.drafts import Draft, all_draft, both_draft, either_draft, guessed_looks
from wholebyparts.read.drafts import least_draft, opposite_draft
from wholebyparts.read.lots import numbered
from wholebyparts.read.setforms import PLAIN

MOST_MADE = 2000


def draft_of_formula(letters, formula):
    """The least draft of the words of which a closed set formula holds; TooMany(2000) if too much is met."""
    making = SetMaking(letters)
    sights, draft = making.parts[making.number(formula, 0)]
    return Draft([draft.looks[sight] for sight in sights[1]], draft.steps, draft.accepting)


class SetMaking:
    """Drafts for the parts of set formulas; a part that stands often is made once.

    A part is a pair of its sights and its least draft. Sights are the ascending tuple of its variables, and for each
    letter of the words a number, the same for letters that it need not tell apart, in the sequence in which they
    come. A letter of the draft tells such a number, and in which of the sets the place is: the number n is n itself,
    with 2 ** i times as much as there are numbers more for the variable i of the tuple if the place is in its set.
    """

    def __init__(self, letters):
        self.letters = letters
        self.known = {}
        self.parts = []
        self.joints = {}
        self.kept = {}

    def number(self, formula, bound):
        """The number of a part with so many variables at hand."""
        word = formula[0]
        if word == "or":
            key = (word, *self.joined(word, formula, bound))
        elif word in PLAIN:
            key = formula
        elif word in ("not", "and"):
            key = (word, *[self.number(part, bound) for part in formula[1:]])
        else:
            key = (word, bound, self.number(formula[1], bound + 1))
        if key not in self.known:
            told = self.made(word, key, formula, bound)
            self.known[key] = len(self.parts)
            self.parts.append(told)
        return self.known[key]

    def joined(self, word, formula, bound):
        """The numbers, each once, of the parts that the word joins, however these stand within one another."""
        found = {}
        waiting = [formula]
        while waiting:
            told = waiting.pop()
            if told[0] == word:
                waiting.extend(told[:0:-1])
            else:
                found[self.number(told, bound)] = True
        return list(found)

    def made(self, word, key, formula, bound):
        """The part that the formula is, by its key: a plain form, or the word with the numbers of its parts."""
        if word in PLAIN:
            return _plain(self.letters, key)
        if word == "not":
            return _opposite(self.parts[key[1]])
        if word == "some":
            return _some(self.parts[key[2]], bound)
        if word == "all":
            return _opposite(_some(_opposite(self.parts[key[2]]), bound))
        many = 1
        for number in key[1:]:
            many = many * len(self.parts[number][1].steps)
        numbers = key[1:]
        if many > MOST_MADE:
            # Too many pairs may be met by two parts alone, as they stand in the formula.
            numbers = [self.number(part, bound) for part in formula[1:]]
        sights, drafts = self.together([self.parts[number] for number in numbers])
        if many <= MOST_MADE:
            return (sights, least_draft(_all_of(word, drafts)))
        both = both_draft if word == "and" else either_draft
        return (sights, least_draft(both(drafts[0], drafts[1], MOST_MADE)))

    def together(self, parts):
        """The sights of the parts together, and the list of their drafts by the letters of these."""
        told = [sights for sights, _ in parts]
        if not [sights for sights in told if sights != told[0]]:
            return (told[0], [draft for _, draft in parts])
        key = tuple(told)
        if key not in self.joints:
            names = tuple(sorted({name for sights in told for name in sights[0]}))
            every = [sights[1] for sights in told]
            numbers, seen = numbered(list(zip(*every)))
            columns = list(zip(*seen))
            tables = [self.table(names, sights, column) for sights, column in zip(told, columns)]
            self.joints[key] = ((names, tuple(numbers)), tables)
        sights, tables = self.joints[key]
        return (sights, [_seen(draft, table) for (_, draft), table in zip(parts, tables)])

    def table(self, names, sights, numbers):
        """For each letter of a part with these names that of a part with these sights, which sees the numbers so."""
        if (names, sights[0]) not in self.kept:
            self.kept[(names, sights[0])] = _kept_bits(names, sights[0])
        many = max(sights[1]) + 1
        return [many * bits + number for bits in self.kept[(names, sights[0])] for number in numbers]


def _kept_bits(names, told):
    """For each lot of the names, as bits, what is left of it if just the told ones are seen."""
    kept = [0]
    for name in names:
        bit = 1 << told.index(name) if name in told else 0
        kept = kept + [bits + bit for bits in kept]
    return kept


def _all_of(word, drafts):
    """The draft of what all of the drafts take, or at least one of them."""
    if len(drafts) == 1:
        return drafts[0]
    if word == "and":
        return both_draft(drafts[0], drafts[1]) if len(drafts) == 2 else all_draft(drafts)
    return opposite_draft(all_draft([opposite_draft(draft) for draft in drafts]))


def _seen(draft, table):
    """The draft of a part, by the letters of a part that sees more."""
    # What is met stays so, in the same sequence, as less letters come first in both ways.
    return Draft([draft.looks[letter] for letter in table], draft.steps, draft.accepting)


def _opposite(part):
    sights, draft = part
    return (sights, opposite_draft(draft))


def _some(part, bound):
    """The part "some" of a part: its last variable is guessed, if it has the one that is bound."""
    (names, numbers), draft = part
    if bound not in names:
        return part
    # In the second half of the letters the place is in the last set.
    many = len(draft.looks) // 2
    looks, kept = numbered(list(zip(draft.looks[:many], draft.looks[many:])))
    return ((names[:-1], numbers), least_draft(guessed_looks(draft, looks, kept, MOST_MADE)))


def _plain(letters, formula):
    """The part of a plain form."""
    word, variables = formula[0], formula[1:]
    if word == "letter":
        return _letter(letters, formula[1], formula[2])
    sights = (tuple(sorted(set(variables))), (0,) * letters)
    if word == "single":
        return (sights, Draft([0, 1], [(0, 1), (1, 2), (2, 2)], [False, True, False]))
    if len(sights[0]) == 1:
        # Each set is within itself, none is before itself.
        return (sights, Draft([0, 0], [(0,)], [word == "within"]))
    is_first_low = variables[0] < variables[1]
    if word == "within":
        return (sights, Draft([0, 1, 0, 0] if is_first_low else [0, 0, 1, 0], [(0, 1), (1, 1)], [True, False]))
    # The states: nothing is met, and in the sequence in which letters lead there the first one, both, or too much.
    if is_first_low:
        steps = [(0, 1, 2, 2), (1, 2, 3, 2), (2, 2, 2, 2), (3, 2, 2, 2)]
    else:
        steps = [(0, 1, 2, 1), (1, 1, 1, 1), (2, 3, 1, 1), (3, 1, 1, 1)]
    return (sights, Draft([0, 1, 2, 3], steps, [False, False, False, True]))


def _letter(letters, letter, variable):
    """The part of the plain form that at each place of the set stands the letter."""
    if letters == 1:
        return (((variable,), (0,)), Draft([0, 0], [(0,)], [True]))
    numbers = numbered([one == letter for one in range(letters)])[0]
    looks = [0, 0, 0, 1] if letter == 0 else [0, 0, 1, 0]
    return (((variable,), tuple(numbers)), Draft(looks, [(0, 1), (1, 1)], [True, False]))
