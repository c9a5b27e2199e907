"""Stage 9: formulas about sets of places."""

import unittest
from itertools import product
from unittest import mock

from tests.helpers import BIG, NO_NUMBERS, NO_READERS, NO_WORDS, WRONG, Chooser, accepts_all, all_words, cycle
from tests.helpers import is_plainly_least, line, lots_of, nested, plainly_takes, refuses, refuses_each, some_readers
from wholebyparts.errors import InvalidFormula, InvalidNumber, InvalidOperation, InvalidReader, InvalidWord, TooMany
from wholebyparts.read import sets
from wholebyparts.read.making import least, opposite
from wholebyparts.read.readers import Reader, takes
from wholebyparts.read.sets import holds_at, is_set_formula, is_set_formula_of, set_formula, set_reader

ONCE, EMPTY = ("some", ("and", ("single", 0), ("letter", 1, 0))), ("not", ("some", ("single", 0)))
EVERY = ("all", ("within", 0, 0))
NO_SET_FORMULAS = [
    *WRONG, (), ("true",), ("letter", 0), ("letter", 0, 0, 0), ("letter", True, 0), ("letter", 2, 0), ("letter", -1, 0),
    ("single", True), ("single", 3), ("single", -1), ("single",), ["single", 0], ("within", 0), ("within", 0, False),
    ("before", 0, 3), ("before", BIG, 0), ("not", ("true",)), ("and", EVERY), ("or", EVERY, EVERY, EVERY), ("some",),
    ("not", ["single", 0]), ("maybe", EVERY), ("letter", 0, None), (("single",), 0), ("mark", 0, 0),
]


def plainly_holds_of(word, at, formula):
    """Whether a set formula holds of the word at a tuple of sets, by the words of the document alone."""
    name, rest = formula[0], formula[1:]
    if name == "letter":
        return all(word[place] == rest[0] for place in at[rest[1]])
    if name == "within":
        return at[rest[0]] <= at[rest[1]]
    if name == "single":
        return len(at[rest[0]]) == 1
    if name == "before":
        return len(at[rest[0]]) == len(at[rest[1]]) == 1 and max(at[rest[0]]) < max(at[rest[1]])
    if name == "not":
        return not plainly_holds_of(word, at, rest[0])
    if name in ("and", "or"):
        both = [plainly_holds_of(word, at, part) for part in rest]
        return all(both) if name == "and" else any(both)
    found = [plainly_holds_of(word, (*at, frozenset(lot)), rest[0]) for lot in lots_of(range(len(word)))]
    return any(found) if name == "some" else all(found)


def plain_forms(letters, free):
    numbers = range(free)
    found = [("letter", a, x) for a in range(letters) for x in numbers] + [("single", x) for x in numbers]
    return found + [(name, x, y) for name in ("within", "before") for x in numbers for y in numbers]


def chosen(chooser, letters, free, depth, size):
    """A set formula with at most so many quantifiers within one another, and about so many nodes."""
    if free == 0 and size <= 2:
        return ("some", chosen(chooser, letters, 1, 0, 1)) if depth else EVERY
    if size <= 1:
        return chooser.one_of(plain_forms(letters, free))
    name = chooser.one_of(["not", "and", "or"] + (["some", "all"] * 2 if depth else []))
    if name == "not":
        return (name, chosen(chooser, letters, free, depth, size - 1))
    if name in ("and", "or"):
        return (name, *[chosen(chooser, letters, free, depth, size // 2) for _ in range(2)])
    return (name, chosen(chooser, letters, free + 1, depth - 1, size - 1))


def depth_of(formula):
    if formula[0] in ("letter", "within", "single", "before"):
        return 0
    return max(depth_of(part) for part in formula[1:]) + (formula[0] in ("some", "all"))


def nodes_of(formula):
    if formula[0] in ("letter", "within", "single", "before"):
        return 1
    return 1 + sum(nodes_of(part) for part in formula[1:])


class Data(unittest.TestCase):
    def test_constants(self):
        told = (sets.MOST_SET_LETTERS, sets.MOST_HANDED, sets.MOST_TOLD, sets.MOST_AT_ONCE)
        self.assertEqual(told, (8, 200, 2000, 6))

    def test_plain_forms(self):
        for letters, free in product((1, 2, 8), range(4)):
            for name in ("letter", "within", "single", "before"):
                many = 1 if name == "single" else 2
                for numbers in product(range(-1, 10), repeat=many):
                    wanted = all(0 <= number < free for number in numbers)
                    if name == "letter":
                        wanted = 0 <= numbers[0] < letters and 0 <= numbers[1] < free
                    self.assertIs(is_set_formula(letters, free, (name, *numbers)), wanted)

    def test_made_forms(self):
        for free in range(4):
            self.assertIs(is_set_formula(1, free, ("some", ("single", free))), True)
            self.assertIs(is_set_formula(1, free, ("all", ("single", free + 1))), False)
            self.assertIs(is_set_formula(1, free, ("and", EVERY, ("not", EVERY))), True)
            deep = nested(lambda value: ("some", value), 6 - free, ("single", 5))
            self.assertIs(is_set_formula(1, free, deep), True)
            self.assertIs(is_set_formula(1, free, ("some", deep)), False)
            self.assertIs(is_set_formula(1, free, ("or", EVERY, deep)), True)
            accepts_all(self, is_set_formula, 2, free, values=NO_SET_FORMULAS)

    def test_nodes(self):
        many = ("single", 0)
        for _ in range(98):
            many = ("and", ("single", 0), many)
        self.assertEqual(nodes_of(many), 197)
        self.assertIs(is_set_formula(1, 1, ("or", ("not", ("single", 0)), many)), True)
        self.assertIs(is_set_formula(1, 1, ("or", ("not", ("not", ("single", 0))), many)), False)
        wide = nested(lambda value: ("and", value, value), 6, ("single", 0))
        self.assertEqual(nodes_of(wide), 127)
        half = ("and", nested(lambda value: ("and", value, value), 5, ("single", 0)), ("not", ("not", ("single", 0))))
        self.assertIs(is_set_formula(1, 1, ("and", wide, nested(lambda value: ("not", value), 6, half))), False)
        self.assertIs(is_set_formula(1, 1, ("and", wide, nested(lambda value: ("not", value), 5, half))), True)
        self.assertIs(is_set_formula(1, 1, nested(lambda value: ("not", value), 99, ("single", 0))), True)
        self.assertIs(is_set_formula(1, 1, nested(lambda value: ("not", value), 100, ("single", 0))), False)


class Holding(unittest.TestCase):
    def test_plain_forms(self):
        for letters, free in ((1, 1), (2, 1), (2, 2), (3, 2)):
            for word in all_words(letters, 3):
                for at in product(lots_of(range(len(word))), repeat=free):
                    for form in plain_forms(letters, free):
                        wanted = plainly_holds_of(word, tuple(frozenset(lot) for lot in at), form)
                        self.assertIs(holds_at(letters, word, at, form), wanted)

    def test_formulas(self):
        chooser = Chooser(91)
        for _ in range(300):
            letters, free = 1 + chooser.number(3), chooser.number(4)
            formula = chosen(chooser, letters, free, chooser.number(4), 1 + chooser.number(12))
            length = chooser.number(min(4, 9 // max(depth_of(formula), 1)) + 1)
            word = tuple(chooser.number(letters) for _ in range(length))
            at = tuple(tuple(place for place in range(length) if chooser.number(2)) for _ in range(free))
            wanted = plainly_holds_of(word, tuple(frozenset(lot) for lot in at), formula)
            self.assertIs(holds_at(letters, word, at, formula), wanted, formula)

    def test_empty_word(self):
        deep = nested(lambda value: ("all", value), 6, ("within", 5, 0))
        self.assertIs(holds_at(1, (), (), deep), True)
        self.assertIs(holds_at(1, (), (), nested(lambda value: ("some", value), 6, ("single", 5))), False)
        self.assertIs(holds_at(1, (), ((), (), ()), ("before", 0, 1)), False)

    def test_limit(self):
        deep = {depth: nested(lambda value: ("all", value), depth, ("within", depth - 1, 0)) for depth in (1, 2, 3, 4, 6)}
        for depth, formula in deep.items():
            most = 12 // depth
            self.assertIs(holds_at(1, (0,) * most, (), formula), depth == 1)
            refuses(self, TooMany, 12, holds_at, 1, (0,) * (most + 1), (), formula)
        self.assertIs(holds_at(2, (0, 1) * 1000, ((0, 1999),), ("single", 0)), False)
        self.assertIs(holds_at(2, (0, 1) * 1000, ((1999,), (0,)), ("before", 1, 0)), True)
        refuses(self, TooMany, 12, holds_at, 2, (0, 1) * 1000, (), ONCE)
        self.assertIs(holds_at(2, (0,) * 11 + (1,), (), ONCE), True)

    def test_refusals(self):
        at = [*[x for x in WRONG if x not in (((), (), ()), ())], ((1, 0),), ((0, 0),), ((2,),), ((-1,),), ((True,),),
              ([0],), [(0,)], (0,), ((), (), (), ()), ((0, 1, 2),)]
        refuses_each(self, holds_at, (2, (1, 0), ((0,),), ("single", 0)), [
            (0, InvalidNumber, [*NO_NUMBERS, 0, 9]), (1, InvalidWord, NO_WORDS), (2, InvalidOperation, at),
            (3, InvalidFormula, NO_SET_FORMULAS)])
        refuses(self, InvalidFormula, None, holds_at, 2, (1,) * 20, (), ("some", ("single", 1)))
        refuses(self, InvalidFormula, None, holds_at, 2, (1,) * 20, (), ("some", ("not",)))


class Readers(unittest.TestCase):
    def test_words(self):
        chooser = Chooser(92)
        for _ in range(150):
            letters = 1 + chooser.number(3)
            formula = chosen(chooser, letters, 0, 1 + chooser.number(3), 2 + chooser.number(14))
            reader = set_reader(letters, formula)
            self.assertTrue(is_plainly_least(reader))
            self.assertEqual(reader.letters, letters)
            for word in all_words(letters, 3 if letters > 2 or depth_of(formula) > 2 else 4):
                self.assertIs(plainly_takes(reader, word), plainly_holds_of(word, (), formula), formula)

    def test_known_readers(self):
        self.assertTrue(set_reader(8, ONCE) == Reader(8, ((0, 1, 0, 0, 0, 0, 0, 0), (1,) * 8), (1,)))
        two = ("some", ("some", ("before", 0, 1)))
        self.assertTrue(set_reader(1, two) == line(3, (2,)))
        self.assertTrue(set_reader(2, EVERY) == Reader(2, ((0, 0),), (0,)))
        self.assertTrue(set_reader(2, ("not", EVERY)) == Reader(2, ((0, 0),), ()))
        self.assertTrue(set_reader(1, ("all", ("some", ("within", 0, 0)))) == Reader(1, ((0,),), (0,)))
        self.assertTrue(set_reader(1, ("some", ("all", ("within", 1, 0)))) == Reader(1, ((0,),), (0,)))
        self.assertTrue(set_reader(1, ("all", ("some", ("before", 0, 0)))) == Reader(1, ((0,),), ()))

    def test_count_in_turn(self):
        # Sets that have each third place: neighbours differ by the classes, and the first and last are told.
        for states in (2, 3, 4):
            reader = cycle(states)
            self.assertTrue(least(reader) == reader)
            self.assertIs(is_set_formula_of(reader, set_formula(reader)), True)

    def test_many_states(self):
        def ahead(a, b):
            return ("some", ("some", ("and", ("before", 0, 1), ("and", ("letter", a, 0), ("letter", b, 1)))))

        def ways(a, b):
            return ("and", ahead(a, b), ahead(b, a))
        # Of two letters six things must be known, of four such pairs 6 ** 4.
        self.assertEqual(set_reader(8, ways(0, 1)).states, 6)
        self.assertEqual(set_reader(8, ("and", ways(0, 1), ("and", ways(2, 3), ways(4, 5)))).states, 216)
        many = ("and", ("and", ways(0, 1), ways(2, 3)), ("and", ways(4, 5), ways(6, 7)))
        refuses(self, TooMany, 512, set_reader, 8, many)
        refuses(self, TooMany, 512, set_reader, 8, ("not", many))
        # So many states on the way are no fault, as the reader itself is small.
        self.assertTrue(set_reader(8, ("and", many, EMPTY)) == Reader(8, ((0,) * 8,), ()))
        self.assertTrue(set_reader(8, ("or", EMPTY, ("and", many, EMPTY))) == set_reader(8, EMPTY))
        self.assertIs(is_set_formula_of(Reader(8, ((0,) * 8,), ()), many), False)

    def test_refusals(self):
        refuses_each(self, set_reader, (2, ONCE), [(0, InvalidNumber, [*NO_NUMBERS, 0, 9]), (1, InvalidFormula, NO_SET_FORMULAS)])
        for formula in (("single", 0), nested(lambda value: ("not", value), 100, EMPTY), ("some", ("letter", 2, 0))):
            refuses(self, InvalidFormula, None, set_reader, 2, formula)
        for call in (is_set_formula,):
            refuses_each(self, call, (2, 0, ONCE), [
                (0, InvalidNumber, [*NO_NUMBERS, 0, 9]), (1, InvalidNumber, [*NO_NUMBERS, 4])])


class Told(unittest.TestCase):
    def test_formulas(self):
        readers = some_readers(93, 60, 3, 4) + some_readers(94, 20, 8, 4)
        for reader in [*readers, Reader(8, ((1, 2, 3, 0, 1, 2, 3, 0), (2,) * 8, (3, 1) * 4, (0, 3) * 4), (1, 3))]:
            told = set_formula(reader)
            self.assertLessEqual(nodes_of(told), 2000)
            self.assertLessEqual(depth_of(told), 6)
            self.assertIs(is_set_formula_of(reader, told), True)
            self.assertIs(is_set_formula_of(opposite(reader), told), False)
            self.assertIs(is_set_formula_of(opposite(reader), ("not", told)), True)
            for word in all_words(reader.letters, 2 if reader.letters < 3 and reader.states < 4 else 1):
                self.assertIs(plainly_holds_of(word, (), told), plainly_takes(reader, word))

    def test_little_is_met(self):
        for reader in some_readers(96, 20, 3, 4) + some_readers(97, 20, 8, 4):
            with mock.patch("wholebyparts.read.drafts.MOST_MET", 200):
                self.assertIs(is_set_formula_of(reader, set_formula(reader)), True)

    def test_handed_in(self):
        # What is told of two states is short enough to be handed in.
        for reader in some_readers(95, 30, 2, 2):
            told = set_formula(reader)
            if is_set_formula(reader.letters, 0, told):
                self.assertTrue(set_reader(reader.letters, told) == least(reader))
                for word in all_words(reader.letters, 3):
                    self.assertIs(holds_at(reader.letters, word, (), told), takes(reader, word))

    def test_judged(self):
        reader = Reader(2, ((0, 1), (1, 1)), (1,))
        for formula, wanted in ((ONCE, True), (("not", ("not", ONCE)), True), (EMPTY, False), (("or", ONCE, EMPTY), False),
                                (("and", ONCE, EVERY), True), (("single", 0), False), (("some", ("single", 0)), False)):
            self.assertIs(is_set_formula_of(reader, formula), wanted)
        accepts_all(self, is_set_formula_of, reader, values=NO_SET_FORMULAS)
        # A judged formula can have more nodes than one that is handed in.
        long = nested(lambda value: ("or", value, value), 8, ONCE)
        self.assertGreater(nodes_of(long), 1000)
        self.assertIs(is_set_formula_of(reader, long), True)
        self.assertIs(is_set_formula_of(reader, ("or", long, long)), False)
        self.assertIs(is_set_formula_of(reader, nested(lambda value: ("not", value), 96, ONCE)), True)
        self.assertIs(is_set_formula_of(reader, nested(lambda value: ("not", value), 98, ONCE)), False)
        self.assertIs(is_set_formula_of(reader, ("some", ("and", ("single", 0), ("letter", 2, 0)))), False)

    def test_bounds(self):
        for call in (set_formula, lambda reader: is_set_formula_of(reader, None)):
            refuses(self, TooMany, 4, call, cycle(5))
            refuses(self, TooMany, 4, call, cycle(5, (), 9))
            refuses(self, TooMany, 8, call, cycle(4, (), 9))
        self.assertIs(is_set_formula_of(cycle(4, (1,), 8), set_formula(cycle(4, (1,), 8))), True)
        refuses_each(self, set_formula, (cycle(2),), [(0, InvalidReader, NO_READERS)])
        refuses_each(self, is_set_formula_of, (cycle(2), ONCE), [(0, InvalidReader, NO_READERS)])


class Long(unittest.TestCase):
    """Inputs that took long."""

    def test_told_readers(self):
        large = Reader(8, ((1, 0, 2, 1, 0, 2, 0, 1), (2, 1, 0, 0, 2, 1, 1, 2), (0, 2, 1, 2, 1, 0, 2, 0)), (0,))
        self.assertIs(is_set_formula_of(large, set_formula(large)), True)
        self.assertIs(is_set_formula_of(large, ("not", set_formula(large))), False)
        self.assertIs(is_set_formula_of(opposite(large), ("not", set_formula(large))), True)
        small = Reader(2, ((1, 0), (2, 1), (3, 2), (0, 3)), (0, 2))
        self.assertTrue(set_reader(2, set_formula(small)) == least(small))
        self.assertIs(is_set_formula_of(small, set_formula(small)), True)
        self.assertIs(is_set_formula_of(small, set_formula(large)), False)

    def test_most_letters_and_states(self):
        # Whatever is told is judged: no reader of a part meets too much on the way.
        chooser = Chooser(97)
        for _ in range(120):
            reader = chooser.reader(1 + chooser.number(8), 1 + chooser.number(4))
            told = set_formula(reader)
            self.assertIs(is_set_formula_of(reader, told), True)
            other = chooser.reader(reader.letters, 1 + chooser.number(4))
            self.assertIs(is_set_formula_of(other, told), least(other) == least(reader))

    def test_pairs_of_plain_forms(self):
        plain = [("letter", letter, x) for letter in (0, 1) for x in (0, 1)] + [("single", x) for x in (0, 1)]
        plain += [(word, x, y) for word in ("within", "before") for x in (0, 1) for y in (0, 1)]
        words = all_words(2, 3)
        at = {word: [[frozenset(lot) for lot in lots_of(range(len(word)))]] * 2 for word in words}
        for one, other in product(plain, plain):
            for formula in (("and", one, other), ("and", one, ("not", other)), ("and", other, ("or", ("not", one), ("single", 1)))):
                for first, second in (("some", "some"), ("all", "some"), ("some", "all")):
                    told = set_reader(2, (first, (second, formula)))
                    for word in words:
                        rows = {pair: plainly_holds_of(word, pair, formula) for pair in product(*at[word])}
                        inner = [(any if second == "some" else all)([rows[(x, y)] for y in at[word][1]]) for x in at[word][0]]
                        self.assertIs(plainly_takes(told, word), (any if first == "some" else all)(inner))

    def test_before_longer_sets(self):
        # Sets with more places are not before one another, wherever these are.
        never = ("not", EVERY)
        for x, y in ((0, 1), (1, 0)):
            for one in (0, 1):
                formula = ("some", ("some", ("and", ("before", x, y), ("not", ("single", one)))))
                self.assertTrue(set_reader(2, formula) == set_reader(2, never))
            same = ("some", ("some", ("and", ("before", x, y), ("before", y, x))))
            self.assertTrue(set_reader(2, same) == set_reader(2, never))

    def test_wide_joins(self):
        # Many parts that one word joins: few together are read at once, too many of them two by two.
        letters = [("letter", letter, 0) for letter in range(8)]
        for many in (2, 7, 8):
            for word in ("and", "or"):
                joined = letters[0]
                for one in letters[1:many]:
                    joined = (word, joined, one)
                for twice in (joined, (word, joined, joined), (word, letters[3], (word, joined, ("not", ("single", 0))))):
                    told = set_reader(8, ("some", ("and", ("single", 0), twice)))
                    for text in all_words(8, 2):
                        wanted = any(plainly_holds_of(text, (frozenset({place}),), twice) for place in range(len(text)))
                        self.assertIs(plainly_takes(told, text), wanted)
        # Eleven sets, each with a part of two states.
        parts = [("within", one, other) for one in range(4) for other in range(4) if one != other]
        joined = parts[0]
        for one in parts[1:]:
            joined = ("or", one, joined)
        told = set_reader(1, ("all", ("all", ("all", ("all", joined)))))
        for length in range(4):
            sets_of = [frozenset(lot) for lot in lots_of(range(length))]
            wanted = all(plainly_holds_of((0,) * length, at, joined) for at in product(sets_of, repeat=4))
            self.assertIs(plainly_takes(told, (0,) * length), wanted)


if __name__ == "__main__":
    unittest.main()
