"""Stage 21: claims, and the papers for them."""

import unittest

from tests.bending import bent, exact
from tests.helpers import NO_FORMULAS, NO_NUMBERS, NO_READERS, NO_ROWS, NO_SHAPES, NO_STRUCTURES, WRONG, Chooser, all_words
from tests.helpers import plain_atom, plain_kind, plainly_takes, refuses, rows_with, some_readers
from tests.test_machine import NO_STOCKS, NO_WHOLE_FORMULAS, cases, from_the_end
from wholebyparts.errors import InvalidClaim, TooMany
from wholebyparts.judge.claims import answered, is_claim, opposite, takes
from wholebyparts.kinds.games import is_book_answer
from wholebyparts.kinds.parting import parting_answer
from wholebyparts.main.machine import reader_of
from wholebyparts.part.structures import Structure
from wholebyparts.read.making import opposite as opposite_reader
from wholebyparts.read.readers import Reader
from wholebyparts.shape.rules import some_rule
from wholebyparts.shape.shapes import Shape, product_shape, sum_shape

SUM, PRODUCT = sum_shape((1, 0)), product_shape((1, 0))
MARKED, NONE, PAIR = Structure(1, ((0,),), ()), Structure(1, ((),), ()), Structure(2, ((0,),), ())
STOCK = (MARKED, NONE)
SOME, EACH, TRUE = ("some", ("mark", 0, 0)), ("all", ("mark", 0, 0)), ("true",)
EVEN, ALL = Reader(2, ((0, 1), (1, 0)), (0,)), Reader(2, ((0, 0),), (0,))
LOOSE = Reader(2, ((0, 1), (2, 0), (1, 0)), (0,))
TWO, THREE = Structure(2, (), (((0, 1),),)), Structure(3, (), (((0, 1), (0, 2), (1, 2)),))
PAIRS = (("alike", "apart"), ("taken alike", "taken unlike"), ("always", "lacking"), ("agree", "parted"))
ISLANDS = [Structure(size, (), ()) for size in (2, 3, 4)]


def game_claims():
    found = []
    chooser = Chooser(211)
    for size in (0, 1, 2, 3):
        for other in (1, 2, 3):
            for depth in range(4):
                one, two = chooser.structure(size, (1, 1)), chooser.structure(other, (1, 1))
                found.append(("alike", one, (), two, (), depth))
                if size and depth < 3:
                    found.append(("alike", one, chooser.row(one, 1), two, chooser.row(two, 1), depth))
    found += [("alike", one, (), other, (), depth) for one in ISLANDS for other in ISLANDS for depth in range(4)]
    return found + [("alike", TWO, (), THREE, (), depth) for depth in range(4)]


def reader_claims():
    readers = [EVEN, ALL, LOOSE, opposite_reader(EVEN), *[one for one in some_readers(212, 30, 2, 4) if one.letters == 2]]
    return [("taken alike", one, other) for one in readers for other in readers[:5]]


def word_claims():
    found = []
    chooser = Chooser(213)
    for shape, stock, formula in cases(214, 40):
        second = chooser.formula(shape.whole_signature, 0, min(2, 3 - shape.extra), 6)
        found.append(("always", shape, stock, formula))
        found.append(("agree", shape, stock, formula, second))
        found.append(("agree", shape, stock, formula, ("or", formula, formula)))
    return found + [("always", SUM, STOCK, TRUE), ("always", SUM, STOCK[:1], EACH), ("agree", SUM, STOCK[:1], TRUE, EACH)]


def is_plainly_true(claim):
    """Whether a claim with the first word of a pair is true."""
    word, members = claim[0], claim[1:]
    if word == "alike":
        one, row, other, goal, depth = members
        return plain_kind(one, row, depth) == plain_kind(other, goal, depth)
    if word == "taken alike":
        return not [x for x in all_words(2, 7) if plainly_takes(members[0], x) != plainly_takes(members[1], x)]
    readers = [reader_of(members[0], members[1], formula) for formula in members[2:]]
    if word == "always":
        return readers[0].states == 1 and readers[0].accepting == (0,)
    return readers[0] == readers[1]


def turned(claim):
    """The claim with the other word of its pair."""
    words = dict(PAIRS) | {other: one for one, other in PAIRS}
    return (words[claim[0]], *claim[1:])


def whole_book(one, row, other, goal, depth):
    """A book with all pairs of equally long rows of one kind: the largest one."""
    levels = []
    for rounds in range(depth + 1):
        pairs = []
        for many in range(len(row), min(len(row) + depth - rounds, 4 - rounds) + 1):
            for a in rows_with(one, many):
                pairs.extend((a, b) for b in rows_with(other, many)
                             if plain_atom(one, a) == plain_atom(other, b) and plain_kind(one, a, rounds) == plain_kind(other, b, rounds))
        levels.append(tuple(sorted(pairs)))
    return ("book", tuple(levels))


class Claims(unittest.TestCase):
    def test_true_ones(self):
        seen = {}
        for claim in [*game_claims(), *reader_claims(), *word_claims()]:
            self.assertIs(is_claim(claim), True)
            self.assertIs(is_claim(turned(claim)), True)
            self.assertTrue(opposite(claim) == turned(claim))
            self.assertTrue(opposite(turned(claim)) == claim)
            right = claim if is_plainly_true(claim) else turned(claim)
            seen[right[0]] = seen.get(right[0], 0) + 1
            for asked in (claim, turned(claim)):
                told, paper = answered(asked)
                self.assertTrue(told == right)
                self.assertIs(takes(told, paper), True)
                self.assertIs(takes(turned(told), paper), False)
        self.assertEqual(sorted(seen), sorted(word for pair in PAIRS for word in pair))
        self.assertGreater(min(seen.values()), 5)

    def test_papers_for_all(self):
        # Each paper is tried for each claim; just what shows it is taken, and never for a claim that is not true.
        claims = [("alike", TWO, (), THREE, (), 1), ("alike", TWO, (), THREE, (), 2), ("taken alike", EVEN, ALL), ("taken alike", EVEN, LOOSE),
                  ("taken alike", EVEN, EVEN), ("always", SUM, STOCK, EACH), ("always", SUM, STOCK, TRUE), ("agree", SUM, STOCK, SOME, EACH),
                  ("agree", SUM, STOCK, SOME, ("not", ("not", SOME))), ("alike", PAIR, (), MARKED, (), 1), ("agree", PRODUCT, STOCK, SOME, EACH)]
        papers = [answered(claim)[1] for claim in claims]
        papers += [parting_answer(TWO, (), THREE, (), 2), parting_answer(PAIR, (), MARKED, (), 1), ("word", ()), ("word", (1,)), ("word", (0, 1)),
                   ("always",), ("agree",), ("alike",), ("lacking",), ("parted",), ("word",), ("book", ()), ("tree", ()), ("alike", ())]
        for claim in claims:
            is_true = is_plainly_true(claim)
            found = [[takes(asked, paper) for paper in papers] for asked in (claim, turned(claim))]
            self.assertEqual([any(told) for told in found], [is_true, not is_true])
        self.assertIs(takes(turned(claims[2]), ("word", (1,))), True)
        for word, wanted in (((), True), ((0, 1), True), ((1,), False), ((0,), False)):
            self.assertIs(takes(turned(claims[7]), ("word", word)), wanted)
        self.assertIs(takes(("always", SUM, STOCK, TRUE), ("agree",)), False)
        self.assertIs(takes(("agree", SUM, STOCK, SOME, SOME), ("always",)), False)

    def test_papers_of_games(self):
        for claim in game_claims():
            members = claim[1:]
            if is_plainly_true(claim):
                paper = whole_book(*members)
                self.assertIs(takes(claim, paper), True)
                self.assertIs(takes(turned(claim), paper), False)
                self.assertIs(takes(claim, ("book", paper[1][:-1])), False)
                self.assertIs(takes(turned(claim), ("formula", TRUE)), False)
                self.assertIs(takes(turned(claim), ("alike",)), False)
            else:
                paper = parting_answer(*members)
                self.assertIs(takes(turned(claim), paper), True)
                self.assertIs(takes(turned(claim), ("formula", ("and", TRUE, paper[1]))), True)
                self.assertIs(takes(turned(claim), ("formula", ("not", paper[1]))), False)
                self.assertIs(takes(claim, paper), False)
                back = (turned(claim)[0], members[2], members[3], members[0], members[1], members[4])
                self.assertIs(takes(back, paper), False)
                self.assertIs(takes(back, ("formula", ("not", paper[1]))), True)

    def test_papers_of_readers(self):
        # Words and pairs that the program would not give.
        self.assertIs(takes(("taken unlike", EVEN, ALL), ("word", (1,) * 1999)), True)
        self.assertIs(takes(("taken unlike", EVEN, ALL), ("word", (0,) * 2000 + (1,))), False)
        self.assertIs(takes(("taken unlike", EVEN, ALL), ("word", (0,))), False)
        pairs = ((0, 0), (1, 1), (1, 2))
        self.assertIs(takes(("taken alike", EVEN, LOOSE), ("alike", pairs)), True)
        self.assertIs(takes(("taken alike", EVEN, LOOSE), ("alike", pairs[:2])), False)
        self.assertIs(takes(("taken alike", EVEN, LOOSE), ("alike",)), False)
        loose = Reader(2, ((0, 1), (1, 0), (2, 2)), (0,))
        self.assertIs(takes(("taken alike", loose, loose), ("alike", ((0, 0), (1, 1), (2, 2)))), True)

    def test_papers_of_words(self):
        for claim in word_claims():
            members = claim[1:]
            readers = [reader_of(members[0], members[1], formula) for formula in members[2:]]
            for word in all_words(len(members[1]), 3):
                taken = [plainly_takes(reader, word) for reader in readers]
                wanted = not taken[0] if len(taken) == 1 else taken[0] != taken[1]
                self.assertIs(takes(turned(claim), ("word", word)), wanted)
                self.assertIs(takes(claim, ("word", word)), False)
            self.assertIs(takes(claim, (claim[0],)), is_plainly_true(claim))
            self.assertIs(takes(turned(claim), (claim[0],)), False)
            self.assertIs(takes(turned(claim), (turned(claim)[0],)), False)
        self.assertIs(takes(("lacking", SUM, STOCK, EACH), ("word", (1,) * 2000)), True)
        self.assertIs(takes(("lacking", SUM, STOCK, EACH), ("word", (1,) * 2001)), False)

    def test_near_papers(self):
        for claim in [("alike", TWO, (), THREE, (), 1), ("apart", TWO, (), THREE, (), 2), ("taken alike", EVEN, LOOSE), ("taken unlike", EVEN, ALL),
                      ("always", SUM, STOCK, TRUE), ("lacking", SUM, STOCK, EACH), ("agree", SUM, STOCK, SOME, SOME), ("parted", SUM, STOCK, SOME, EACH)]:
            told, paper = answered(claim)
            self.assertTrue(told == claim)
            for value in [*WRONG, *bent(paper), [*paper], paper[0], (paper,)]:
                wanted = self.is_right(claim, value)
                self.assertIs(takes(claim, value), wanted)
                self.assertIs(takes(turned(claim), value), False)

    def is_right(self, claim, value):
        """What is not of the form is no paper; what is has judges of its own, which other tests look at."""
        word, members = claim[0], claim[1:]
        if not isinstance(value, tuple) or len(value) != (1 if word in ("always", "agree") else 2):
            return False
        if word in ("always", "agree"):
            return value == (word,)
        if word in ("alike", "apart"):
            return value[0] in ("book", "tree") and is_book_answer(*members, value) and (value[0] == "book") == (word == "alike")
        if word == "taken alike":
            return exact(value, ("alike", ((0, 0), (1, 1), (1, 2))))
        wanted = isinstance(value[1], tuple) and all(type(letter) is int and letter in (0, 1) for letter in value[1])
        if value[0] != "word" or not wanted:
            return False
        if word == "taken unlike":
            return plainly_takes(EVEN, value[1]) != plainly_takes(ALL, value[1])
        readers = [reader_of(members[0], members[1], formula) for formula in members[2:]]
        taken = [plainly_takes(reader, value[1]) for reader in readers]
        return not taken[0] if len(taken) == 1 else taken[0] != taken[1]


class Judged(unittest.TestCase):
    def test_members(self):
        # Each member in turn is wrong: then the function would raise.
        games = [NO_STRUCTURES, [x for x in NO_ROWS if x != ()], NO_STRUCTURES, [x for x in NO_ROWS if x != ()], [*NO_NUMBERS, 4]]
        formulas = NO_WHOLE_FORMULAS
        wrong = [
            (("alike", TWO, (), THREE, (), 1), games), (("taken alike", EVEN, ALL), [NO_READERS, NO_READERS]),
            (("always", SUM, STOCK, SOME), [NO_SHAPES, NO_STOCKS, formulas]),
            (("agree", SUM, STOCK, SOME, EACH), [NO_SHAPES, NO_STOCKS, formulas, formulas]),
        ]
        for claim, lists in wrong:
            for asked in (claim, turned(claim)):
                self.assertIs(is_claim(asked), True)
                for place, values in enumerate(lists, start=1):
                    for value in values:
                        bad = asked[:place] + (value,) + asked[place + 1:]
                        self.assertIs(is_claim(bad), False)
                    for call in (opposite, answered):
                        refuses(self, InvalidClaim, None, call, bad)
                    refuses(self, InvalidClaim, None, takes, bad, ("word", ()))

    def test_forms(self):
        for claim in (("alike", TWO, (), THREE, (), 1), ("taken alike", EVEN, ALL), ("always", SUM, STOCK, SOME), ("agree", SUM, STOCK, SOME, EACH)):
            for asked in (claim, turned(claim)):
                word, members = asked[0], asked[1:]
                near = [members, (word,), word, [*asked], (*asked, ()), asked[:-1], (word, *members[::-1]), (word, members), (word.upper(), *members)]
                near += [(None, *members), ((word,), *members), (True, *members), ("", *members), (word, word, *members), (word, *members, *members)]
                for value in near:
                    if value != asked and not (word.startswith("taken") and value == (word, *members[::-1])):
                        self.assertIs(is_claim(value), False)
        for value in [*WRONG, *NO_FORMULAS]:
            self.assertIs(is_claim(value), False)
            refuses(self, InvalidClaim, None, opposite, value)
            refuses(self, InvalidClaim, None, answered, value)
            refuses(self, InvalidClaim, None, takes, value, None)

    def test_what_would_raise(self):
        # What comes with "then" counts, too; too many states do not.
        extra = Shape((1, 0), SUM.domain, (some_rule((1, 0), 1, ("some", ("same", 0, 1))),), ())
        three = ("some", ("all", ("some", ("mark", 0, 2))))
        self.assertIs(is_claim(("always", SUM, STOCK, three)), True)
        self.assertIs(is_claim(("always", extra, STOCK, three)), False)
        for first, second in ((three, SOME), (SOME, three)):
            self.assertIs(is_claim(("agree", extra, STOCK, first, second)), False)
            self.assertIs(is_claim(("parted", SUM, STOCK, first, second)), True)
        large = Structure(16, (), ())
        for word in ("alike", "apart"):
            self.assertIs(is_claim((word, large, (), large, (), 2)), True)
            self.assertIs(is_claim((word, large, (), ISLANDS[0], (), 3)), False)
            self.assertIs(is_claim((word, ISLANDS[0], (), large, (), 3)), False)
            self.assertIs(is_claim((word, TWO, (0,), THREE, (), 1)), False)
            self.assertIs(is_claim((word, TWO, (), PAIR, (), 1)), False)
            self.assertIs(is_claim((word, TWO, (0, 1), THREE, (0, 1), 3)), False)
            self.assertIs(is_claim((word, TWO, (0, 1), THREE, (0, 1), 2)), True)
        self.assertIs(is_claim(("taken alike", EVEN, Reader(1, ((0,),), ()))), False)
        self.assertIs(is_claim(("taken unlike", EVEN, Reader(3, ((0, 0, 0),), ()))), False)

    def test_many_states(self):
        shape, stock = from_the_end(10), (NONE, MARKED)
        claims = [("always", shape, stock, SOME), ("agree", shape, stock, SOME, TRUE), ("agree", shape, stock, TRUE, SOME)]
        for claim in claims:
            for asked in (claim, turned(claim)):
                self.assertIs(is_claim(asked), True)
                self.assertTrue(opposite(opposite(asked)) == asked)
                refuses(self, TooMany, 512, answered, asked)
                for paper in (None, ("always",), ("agree",), ("word", ()), ("book", ())):
                    refuses(self, TooMany, 512, takes, asked, paper)


if __name__ == "__main__":
    unittest.main()
