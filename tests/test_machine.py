"""Stage 14: the reader of a formula."""

import unittest
from itertools import product

from tests.helpers import NO_FORMULAS, NO_NUMBERS, NO_SHAPES, NO_WORDS, WRONG, Chooser, all_words, is_plainly_least
from tests.helpers import nested, plain_kind, plain_state, plain_things, plain_whole, plainly_holds, plainly_takes, refuses
from tests.helpers import refuses_each, some_shapes
from wholebyparts.errors import InvalidFormula, InvalidNumber, InvalidParts, InvalidShape, InvalidWord, Refused, TooMany
from wholebyparts.main.machine import answer, classes, reader_of, state_words
from wholebyparts.part.structures import Structure
from wholebyparts.read.making import opposite
from wholebyparts.read.readers import Reader, first_word
from wholebyparts.say.formulas import depth_of
from wholebyparts.shape.rules import all_rule, some_rule
from wholebyparts.shape.shapes import Shape, ahead_shape, first_shape, product_shape, some_shape, sum_shape

SUM, PRODUCT = sum_shape((1, 0)), product_shape((1, 0))
MARKED, NONE, PAIR = Structure(1, ((0,),), ()), Structure(1, ((),), ()), Structure(2, ((0,),), ())
STOCK = (MARKED, NONE, PAIR)
SOME, EACH = ("some", ("mark", 0, 0)), ("all", ("mark", 0, 0))
NO_STOCKS = [*[x for x in WRONG if x != ()], (), [MARKED], (MARKED,) * 7, (MARKED, None), (Structure(5, ((),), ()),), MARKED,
             (MARKED, Structure(1, (), ())), (MARKED, Structure(1, ((),), ((),)))]
NO_WHOLE_FORMULAS = [*NO_FORMULAS, ("mark", 0, 0), ("some", ("mark", 1, 0)), ("some", ("link", 0, 0, 0)), ("none", 0)]


def stocks(chooser, signature, many, most):
    """A stock of so many structures of at most the size."""
    return tuple(chooser.structure(chooser.number(most + 1), signature) for _ in range(many))


def cases(seed, many, most=2):
    """Shapes, stocks and formulas that are not too deep."""
    chooser = Chooser(seed)
    found = []
    for index, shape in enumerate(some_shapes(chooser, many)):
        stock = stocks(chooser, shape.signature, 1 + chooser.number(3), most)
        depth = min(3 - shape.extra, chooser.number(4))
        found.append((shape, stock, chooser.formula(shape.whole_signature, 0, depth, 2 + chooser.number(12))))
    return found


def from_the_end(places):
    """A shape by whose sum a thing is marked if just so many parts less one stand behind its own, a marked element."""
    steps = [(0, 1)] + [(state + 1,) * 2 for state in range(1, places + 1)] + [(places + 1,) * 2]
    rule = ((("mark", 0, 0),), Reader(2, tuple(steps), (places,)))
    return Shape((1, 0), SUM.domain, (rule,), ())


class Readers(unittest.TestCase):
    def test_short_words(self):
        for shape, stock, formula in cases(141, 150):
            reader = reader_of(shape, stock, formula)
            self.assertTrue(is_plainly_least(reader))
            self.assertEqual(reader.letters, len(stock))
            for word in all_words(len(stock), 3 if len(stock) > 2 else 4):
                parts = tuple(stock[letter] for letter in word)
                size = len(plain_things(shape, parts))
                if size <= 60 and size ** depth_of(shape.whole_signature, 0, formula) < 4000:
                    wanted = plainly_holds(plain_whole(shape, parts), formula, ())
                    self.assertIs(plainly_takes(reader, word), wanted)
                    if len(word) < 3:
                        self.assertIs(answer(shape, stock, formula, word), wanted)

    def test_links(self):
        chooser = Chooser(142)
        shapes = [call((1, 1), 0) for call in (ahead_shape, first_shape)]
        shapes += [call((1, 1)) for call in (sum_shape, product_shape, some_shape)]
        formulas = [
            ("all", ("some", ("link", 0, 0, 1))), ("some", ("all", ("or", ("same", 0, 1), ("link", 0, 0, 1)))),
            ("some", ("some", ("and", ("link", 0, 0, 1), ("and", ("mark", 0, 0), ("not", ("mark", 0, 1)))))),
            ("all", ("all", ("all", ("or", ("link", 0, 0, 2), ("not", ("and", ("link", 0, 0, 1), ("link", 0, 1, 2))))))),
        ]
        for shape, formula in product(shapes, formulas):
            stock = stocks(chooser, (1, 1), 2, 2)
            reader = reader_of(shape, stock, formula)
            for word in all_words(2, 3):
                wanted = plainly_holds(plain_whole(shape, tuple(stock[letter] for letter in word)), formula, ())
                self.assertIs(plainly_takes(reader, word), wanted)

    def test_extra(self):
        deep = all_rule((1, 0), 1, ("some", ("and", ("mark", 0, 1), ("not", ("same", 0, 1)))))
        shape = Shape((1, 0), SUM.domain, (deep,), ())
        stock = (PAIR, Structure(3, ((0, 1),), ()), NONE)
        for formula in (SOME, EACH, ("some", ("all", ("or", ("same", 0, 1), ("mark", 0, 1))))):
            reader = reader_of(shape, stock, formula)
            for word in all_words(3, 3):
                wanted = plainly_holds(plain_whole(shape, tuple(stock[letter] for letter in word)), formula, ())
                self.assertIs(plainly_takes(reader, word), wanted)

    def test_no_variables(self):
        for shape in (SUM, PRODUCT, some_shape((1, 0))):
            self.assertTrue(reader_of(shape, STOCK, ("true",)) == Reader(3, ((0, 0, 0),), (0,)))
            self.assertTrue(reader_of(shape, STOCK, ("not", ("true",))) == Reader(3, ((0, 0, 0),), ()))
            # Elements are never none.
            self.assertTrue(reader_of(shape, STOCK, ("some", ("none", 0))) == Reader(3, ((0, 0, 0),), ()))
        # Also the one with none at all places.
        every = some_shape((1, 0))
        self.assertTrue(reader_of(every, STOCK, ("all", ("not", ("none", 0)))) == Reader(3, ((0, 0, 0),), (0,)))
        self.assertIs(answer(every, STOCK, ("some", ("true",)), ()), True)

    def test_sizes(self):
        stock = tuple(Structure(size, ((0,)[:size],), ()) for size in (0, 1, 2, 3, 4, 4))
        two = ("some", ("some", ("not", ("same", 0, 1))))
        three = ("some", ("some", ("some", ("and", ("not", ("same", 0, 1)), ("not", ("or", ("same", 0, 2), ("same", 1, 2)))))))
        for formula, least in ((("some", ("true",)), 1), (two, 2), (three, 3)):
            reader, others = reader_of(SUM, stock, formula), reader_of(PRODUCT, stock, formula)
            for word in all_words(6, 2):
                sizes = [stock[letter].size for letter in word]
                self.assertIs(plainly_takes(reader, word), sum(sizes) >= least)
                sizes.append(1)
                self.assertIs(plainly_takes(others, word), (sizes[0] * sizes[-1] if len(sizes) < 3 else sizes[0] * sizes[1]) >= least)
        refuses(self, InvalidParts, None, reader_of, SUM, (*stock[:5], Structure(5, ((),), ())), two)
        self.assertIs(answer(PRODUCT, stock, SOME, (5, 1, 2) * 666), True)
        self.assertIs(answer(PRODUCT, stock, SOME, (5, 1, 2) * 666 + (0, 1)), False)

    def test_opposite(self):
        for shape, stock, formula in cases(143, 40):
            told = reader_of(shape, stock, formula)
            self.assertTrue(reader_of(shape, stock, ("not", formula)) == opposite(told))
            self.assertTrue(reader_of(shape, stock, ("and", formula, formula)) == told)
            self.assertTrue(reader_of(shape, stock, ("or", formula, ("not", ("true",)))) == told)
            self.assertTrue(reader_of(shape, stock * 2, formula).states == told.states)

    def test_many_nodes(self):
        found = reader_of(SUM, STOCK, SOME)
        long = nested(lambda value: ("or", value, value), 9, SOME)
        self.assertTrue(reader_of(SUM, STOCK, long) == found)
        self.assertTrue(reader_of(SUM, STOCK, nested(lambda value: ("not", value), 98, SOME)) == found)
        refuses(self, InvalidFormula, None, reader_of, SUM, STOCK, nested(lambda value: ("not", value), 99, SOME))
        refuses(self, InvalidFormula, None, reader_of, SUM, STOCK, nested(lambda value: ("or", value, value), 10, SOME))


class States(unittest.TestCase):
    def test_state_words(self):
        for shape, stock, formula in cases(144, 60):
            reader = reader_of(shape, stock, formula)
            told = state_words(shape, stock, formula)
            self.assertEqual(len(told), reader.states)
            for state, word in enumerate(told):
                self.assertEqual(plain_state(reader, word), state)
                self.assertLess(len(word), reader.states)
                self.assertEqual(first_word(Reader(reader.letters, reader.steps, (state,))), word)

    def test_many_states(self):
        stock = (NONE, MARKED)
        self.assertEqual(reader_of(from_the_end(4), stock, SOME).states, 16)
        self.assertEqual(reader_of(from_the_end(9), stock, SOME).states, 512)
        words = state_words(from_the_end(9), stock, SOME)
        self.assertEqual((len(words), words[0], words[-1]), (512, (), (1,) * 9))
        for formula in (SOME, ("not", SOME), ("and", SOME, ("not", ("true",))), ("or", ("true",), ("all", ("not", ("mark", 0, 0))))):
            refuses(self, TooMany, 512, reader_of, from_the_end(10), stock, formula)
            refuses(self, TooMany, 512, answer, from_the_end(10), stock, formula, (0,))
            refuses(self, TooMany, 512, state_words, from_the_end(10), stock, formula)
        # The stock decides, not the shape.
        self.assertEqual(reader_of(from_the_end(10), stock[:1], SOME).states, 1)
        self.assertEqual(reader_of(from_the_end(10), stock[1:], SOME).states, 11)

    def test_many_states_of_no_part(self):
        # What is guessed has 660 states, each part of the formula few.
        chosen = (("not", ("none", 0)),)
        shape = Shape((1, 0), (chosen, cycle_of(5)), ((chosen, cycle_of(12)), (chosen, cycle_of(11))), ())
        both = ("and", ("mark", 0, 0), ("mark", 1, 0))
        self.assertTrue(reader_of(shape, (NONE,), ("some", both)) == Reader(1, ((0,),), (0,)))
        # Without a choice the 660 states stay.
        refuses(self, TooMany, 512, reader_of, all_chosen(), (NONE,), ("some", both))


def cycle_of(states):
    """The reader that counts the letters 1."""
    return Reader(2, tuple((state, (state + 1) % states) for state in range(states)), (0,))


def all_chosen():
    """A shape whose things are none at each place, for each fifth number of parts; its marks count the parts, too."""
    told = (("none", 0),)
    domain = (told, Reader(2, tuple((5, (state + 1) % 5) for state in range(5)) + ((5, 5),), (0,)))
    return Shape((1, 0), domain, ((told, cycle_of(12)), (told, cycle_of(11))), ())


class Classes(unittest.TestCase):
    def test_kinds(self):
        chooser = Chooser(145)
        for shape in some_shapes(chooser, 60):
            stock = stocks(chooser, shape.signature, 1 + chooser.number(6), 3)
            stock = stock[:4] + stock[:2]
            for depth in range(4 - shape.extra):
                kinds = [plain_kind(one, (), depth + shape.extra) for one in stock]
                told = classes(shape, stock, depth)
                self.assertEqual(sorted(letter for lot in told for letter in lot), list(range(len(stock))))
                self.assertEqual(list(told), sorted(told))
                for lot in told:
                    self.assertEqual(tuple(letter for letter in range(len(stock)) if kinds[letter] == kinds[lot[0]]), lot)

    def test_letters_of_one_class(self):
        for shape, stock, formula in cases(146, 60, 3):
            stock = (stock * 3)[:6]
            reader = reader_of(shape, stock, formula)
            for lot in classes(shape, stock, depth_of(shape.whole_signature, 0, formula)):
                for step in reader.steps:
                    self.assertEqual(len({step[letter] for letter in lot}), 1)

    def test_sizes(self):
        stock = tuple(Structure(size, (), ()) for size in (4, 3, 2, 1, 0, 4))
        for depth in range(4):
            lots = {0: ((0, 1, 2, 3, 4, 5),), 1: ((0, 1, 2, 3, 5), (4,)), 2: ((0, 1, 2, 5), (3,), (4,)),
                    3: ((0, 1, 5), (2,), (3,), (4,))}
            self.assertEqual(classes(sum_shape((0, 0)), stock, depth), lots[depth])


class Refusals(unittest.TestCase):
    def test_refusals(self):
        wrong = [(0, InvalidShape, NO_SHAPES), (1, InvalidParts, NO_STOCKS), (2, InvalidFormula, NO_WHOLE_FORMULAS)]
        for call in (reader_of, state_words):
            refuses_each(self, call, (SUM, (MARKED, NONE), SOME), wrong)
        words = [word for word in NO_WORDS if word != ()]
        refuses_each(self, answer, (SUM, (MARKED, NONE), SOME, (0, 1)), [*wrong, (3, InvalidWord, words)])
        refuses_each(self, classes, (SUM, (MARKED, NONE), 1), [*wrong[:2], (2, InvalidNumber, [*NO_NUMBERS, 4])])

    def test_deep(self):
        extra = Shape((1, 0), SUM.domain, (some_rule((1, 0), 1, ("some", ("same", 0, 1))),), ())
        three = ("some", ("all", ("some", ("mark", 0, 2))))
        self.assertEqual(reader_of(SUM, (NONE,), three).letters, 1)
        self.assertEqual(reader_of(extra, (NONE,), ("some", ("all", ("mark", 0, 1)))).letters, 1)
        for call in (reader_of, state_words):
            refuses(self, Refused, ("deep",), call, extra, (NONE,), three)
        refuses(self, Refused, ("deep",), answer, extra, (NONE,), three, (0,))
        refuses(self, InvalidWord, None, answer, extra, (NONE,), three, (1,))
        refuses(self, Refused, ("deep",), classes, extra, (NONE,), 3)
        self.assertEqual(classes(extra, (NONE,), 2), ((0,),))
        self.assertEqual(classes(SUM, (NONE,), 3), ((0,),))


if __name__ == "__main__":
    unittest.main()
