"""Stage 15: questions about all words."""

import unittest

from tests.helpers import NO_NUMBERS, NO_SHAPES, Chooser, all_words, plainly_takes, refuses, refuses_each, some_shapes
from tests.test_machine import NO_STOCKS, NO_WHOLE_FORMULAS, cases, from_the_end, stocks
from wholebyparts.errors import InvalidFormula, InvalidNumber, InvalidParts, InvalidShape, Refused, TooMany
from wholebyparts.main.asked import agree_answer, always_answer, how_many, some_word
from wholebyparts.main.machine import answer, reader_of
from wholebyparts.part.structures import Structure, renamed
from wholebyparts.shape.rules import some_rule
from wholebyparts.shape.shapes import Shape, product_shape, sum_shape
from wholebyparts.shape.wholes import holds_in

SUM, PRODUCT = sum_shape((1, 0)), product_shape((1, 0))
MARKED, NONE, PAIR = Structure(1, ((0,),), ()), Structure(1, ((),), ()), Structure(2, ((0,),), ())
SOME, EACH = ("some", ("mark", 0, 0)), ("all", ("mark", 0, 0))
TRUE, NEVER = ("true",), ("not", ("true",))


def taken(reader, longest):
    return [word for word in all_words(reader.letters, longest) if plainly_takes(reader, word)]


class Words(unittest.TestCase):
    def test_always_and_some(self):
        seen = {}
        for shape, stock, formula in cases(151, 200):
            reader, other = reader_of(shape, stock, formula), reader_of(shape, stock, ("not", formula))
            longest = 5 if len(stock) > 2 else 8
            told, lacking = taken(reader, longest), taken(other, longest)
            found = always_answer(shape, stock, formula)
            seen[found[0]] = seen.get(found[0], 0) + 1
            self.assertLessEqual(reader.states, longest)
            self.assertEqual(found, ("word", lacking[0]) if lacking else ("always",))
            self.assertEqual(some_word(shape, stock, formula), told[0] if told else None)
            self.assertEqual(some_word(shape, stock, ("not", formula)), lacking[0] if lacking else None)
            if found[0] == "word":
                self.assertIs(answer(shape, stock, formula, found[1]), False)
                if len(found[1]) <= 3:
                    self.assertIs(holds_in(shape, tuple(stock[letter] for letter in found[1]), formula), False)
        self.assertGreater(min(seen.values()), 20)

    def test_agree(self):
        seen = {}
        found = cases(152, 200)
        chooser = Chooser(153)
        for shape, stock, first in found:
            second = chooser.formula(shape.whole_signature, 0, min(2, 3 - shape.extra), 1 + chooser.number(8))
            for other in (second, ("and", first, second), ("not", ("not", first))):
                told = agree_answer(shape, stock, first, other)
                seen[told[0]] = seen.get(told[0], 0) + 1
                one, two = reader_of(shape, stock, first), reader_of(shape, stock, other)
                self.assertEqual(told == ("agree",), one == two)
                unlike = [word for word in all_words(len(stock), 4) if plainly_takes(one, word) != plainly_takes(two, word)]
                if unlike:
                    self.assertEqual(told, ("word", unlike[0]))
                elif told[0] == "word":
                    self.assertGreater(len(told[1]), 4)
                    self.assertNotEqual(plainly_takes(one, told[1]), plainly_takes(two, told[1]))
        self.assertGreater(min(seen.values()), 20)

    def test_agree_with_true(self):
        for shape, stock, formula in cases(154, 60):
            told = agree_answer(shape, stock, formula, TRUE)
            self.assertEqual(told == ("agree",), always_answer(shape, stock, formula) == ("always",))
            self.assertEqual(agree_answer(shape, stock, TRUE, formula), told)

    def test_how_many(self):
        for shape, stock, formula in cases(155, 60):
            reader = reader_of(shape, stock, formula)
            for length in range(5):
                wanted = [word for word in all_words(len(stock), length) if len(word) == length and plainly_takes(reader, word)]
                self.assertEqual(how_many(shape, stock, formula, length), len(wanted))
            for length in (0, 1, 7, 99):
                told = how_many(shape, stock, formula, length) + how_many(shape, stock, ("not", formula), length)
                self.assertEqual(told, len(stock) ** length)
        self.assertEqual([how_many(SUM, (MARKED,) * 6, SOME, length) for length in (0, 99)], [0, 6 ** 99])
        self.assertEqual([how_many(SUM, (MARKED, NONE), EACH, length) for length in (0, 1, 99)], [1, 1, 1])
        refuses(self, InvalidNumber, 100, how_many, SUM, (MARKED,), SOME, 100)

    def test_known_answers(self):
        self.assertEqual(always_answer(SUM, (MARKED, PAIR), EACH), ("word", (1,)))
        self.assertEqual(always_answer(SUM, (MARKED,), EACH), ("always",))
        self.assertEqual(some_word(SUM, (NONE,), SOME), None)
        self.assertEqual(some_word(PRODUCT, (NONE, NONE, MARKED), ("not", SOME)), (0,))
        self.assertEqual(some_word(from_the_end(9), (NONE, MARKED), SOME), (1,) + (0,) * 8)
        self.assertEqual(always_answer(from_the_end(9), (NONE, MARKED), ("not", SOME)), ("word", (1,) + (0,) * 8))
        self.assertEqual(agree_answer(from_the_end(9), (NONE, MARKED), SOME, NEVER), ("word", (1,) + (0,) * 8))

    def test_other_stocks(self):
        for shape, stock, formula in cases(156, 40):
            other = tuple(renamed(one, tuple(range(one.size))[::-1]) for one in stock)
            self.assertEqual(always_answer(shape, stock, formula), always_answer(shape, other, formula))
            twice = (*stock, *stock)
            self.assertEqual(some_word(shape, twice, formula), some_word(shape, stock, formula))
            self.assertEqual(how_many(shape, twice, formula, 3), 8 * how_many(shape, stock, formula, 3))
            for letter in range(len(stock)):
                if always_answer(shape, stock, formula) == ("always",):
                    self.assertEqual(always_answer(shape, stock[letter:letter + 1], formula), ("always",))


class Refusals(unittest.TestCase):
    def test_refusals(self):
        wrong = [(0, InvalidShape, NO_SHAPES), (1, InvalidParts, NO_STOCKS), (2, InvalidFormula, NO_WHOLE_FORMULAS)]
        good = (SUM, (MARKED, NONE), SOME)
        for call in (always_answer, some_word):
            refuses_each(self, call, good, wrong)
        refuses_each(self, agree_answer, (*good, EACH), [*wrong, (3, InvalidFormula, NO_WHOLE_FORMULAS)])
        refuses_each(self, how_many, (*good, 9), [*wrong, (3, InvalidNumber, [*NO_NUMBERS, 100])])

    def test_then(self):
        extra = Shape((1, 0), SUM.domain, (some_rule((1, 0), 1, ("some", ("same", 0, 1))),), ())
        three = ("some", ("all", ("some", ("mark", 0, 2))))
        stock = (NONE, MARKED)
        for call in (always_answer, some_word):
            refuses(self, Refused, ("deep",), call, extra, stock, three)
            refuses(self, TooMany, 512, call, from_the_end(10), stock, SOME)
        refuses(self, Refused, ("deep",), how_many, extra, stock, three, 99)
        refuses(self, InvalidNumber, -1, how_many, extra, stock, three, -1)
        refuses(self, TooMany, 512, how_many, from_the_end(10), stock, SOME, 3)
        refuses(self, InvalidNumber, 100, how_many, from_the_end(10), stock, SOME, 100)
        for first, second in ((three, TRUE), (TRUE, three), (three, three)):
            refuses(self, Refused, ("deep",), agree_answer, extra, stock, first, second)
        refuses(self, InvalidFormula, None, agree_answer, extra, stock, three, ("mark", 0, 0))
        for first, second in ((SOME, TRUE), (TRUE, SOME), (SOME, SOME)):
            refuses(self, TooMany, 512, agree_answer, from_the_end(10), stock, first, second)

    def test_deep_ahead_of_many(self):
        # Both formulas are looked at for their depth, then readers are made.
        steps = from_the_end(10).marks[0][1]
        rule = ((("some", ("and", ("same", 0, 1), ("mark", 0, 0))),), steps)
        shape = Shape((1, 0), SUM.domain, (rule,), ())
        three = ("some", ("all", ("some", ("mark", 0, 2))))
        refuses(self, TooMany, 512, agree_answer, shape, (NONE, MARKED), SOME, SOME)
        refuses(self, Refused, ("deep",), agree_answer, shape, (NONE, MARKED), SOME, three)

    def test_stocks_of_all_sizes(self):
        chooser = Chooser(157)
        for shape in some_shapes(chooser, 20, 0):
            stock = stocks(chooser, shape.signature, 6, 4)
            formula = chooser.formula(shape.whole_signature, 0, 2, 6)
            found = always_answer(shape, stock, formula)
            if found[0] == "word":
                self.assertIs(answer(shape, stock, formula, found[1]), False)


if __name__ == "__main__":
    unittest.main()
