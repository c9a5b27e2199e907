"""Stage 16: words that may stand for one another."""

import unittest
from itertools import product

from tests.bending import bent, exact, is_plain_word
from tests.helpers import NO_SHAPES, NO_WORDS, WRONG, Chooser, all_words, plain_kind, plain_state, plain_whole
from tests.helpers import plainly_holds, plainly_takes, refuses, refuses_each
from tests.test_machine import NO_STOCKS, NO_WHOLE_FORMULAS, cases, from_the_end, stocks
from wholebyparts.errors import InvalidFormula, InvalidParts, InvalidShape, InvalidWord, Refused, TooMany
from wholebyparts.main import exchange
from wholebyparts.main.exchange import beginnings, beginnings_answer, beginnings_number, is_beginnings_answer
from wholebyparts.main.exchange import is_middles_answer, map_of, middles, middles_answer, middles_number, multiplied
from wholebyparts.main.machine import reader_of
from wholebyparts.part.structures import Structure, renamed
from wholebyparts.read.readers import Reader
from wholebyparts.say.formulas import depth_of
from wholebyparts.shape.rules import some_rule
from wholebyparts.shape.shapes import Shape, sum_shape

SUM = sum_shape((1, 0))
MARKED, NONE = Structure(1, ((0,),), ()), Structure(1, ((),), ())
STOCK = (NONE, MARKED)
SOME = ("some", ("mark", 0, 0))


def by_reader(steps, accepting):
    """A shape whose mark holds of the thing that is none everywhere if the reader of marked parts takes their word.

    Its elements are just this thing: so it has the formula SOME if the reader takes the word over STOCK.
    """
    domain = ((("none", 0),), Reader(2, ((1, 0), (1, 1)), (0,)))
    rule = ((("some", ("mark", 0, 1)),), Reader(2, steps, accepting))
    return Shape((1, 0), domain, (rule,), ())


# Three states in turn, and two of them led to one: 24 maps.
THREE = by_reader(((1, 1), (2, 1), (0, 2)), (0,))


def plain_map(reader, word):
    found = []
    for state in range(reader.states):
        for letter in word:
            state = reader.steps[state][letter]
        found.append(state)
    return tuple(found)


def plain_maps(reader):
    """The first word of each map: all words are tried, length by length, as long as new maps come."""
    found = {}
    words = [()]
    while words:
        new = []
        for word in words:
            told = plain_map(reader, word)
            if told not in found:
                found[told] = word
                new.append(word)
        words = [word + (letter,) for word in new for letter in range(reader.letters)]
    return found


def is_plain_rest(reader, one, other, value):
    """Whether the value is right as the answer about beginnings."""
    if exact(value, ("alike",)):
        return plain_state(reader, one) == plain_state(reader, other)
    if not isinstance(value, tuple) or len(value) != 2 or value[0] != "rest" or not is_plain_word(reader.letters, value[1]):
        return False
    return plainly_takes(reader, one + value[1]) != plainly_takes(reader, other + value[1])


def is_plain_around(reader, one, other, value):
    """Whether the value is right as the answer about middles."""
    if exact(value, ("alike",)):
        return plain_map(reader, one) == plain_map(reader, other)
    if not isinstance(value, tuple) or len(value) != 3 or value[0] != "around":
        return False
    if not is_plain_word(reader.letters, value[1]) or not is_plain_word(reader.letters, value[2]):
        return False
    return plainly_takes(reader, value[1] + one + value[2]) != plainly_takes(reader, value[1] + other + value[2])


class Words(unittest.TestCase):
    def test_by_wholes(self):
        # The words themselves, by wholes that are put together: all short words ahead and behind.
        seen = {"ahead": 0, "within": 0}
        for shape, stock, formula in cases(161, 60, 1):
            stock = (stock * 2)[:2]
            few = all_words(2, 2)

            def has(word, known={}):
                key = (id(shape), word)
                if key not in known:
                    parts = tuple(stock[letter] for letter in word)
                    known[key] = (shape, plainly_holds(plain_whole(shape, parts), formula, ()))
                return known[key][1]

            reader = reader_of(shape, stock, formula)
            for one, other in product(few, all_words(2, 1)):
                ahead = [rest for rest in all_words(2, 2) if has(one + rest) != has(other + rest)]
                told = beginnings_answer(shape, stock, formula, one, other)
                if ahead:
                    seen["ahead"] += 1
                    self.assertEqual(told[0], "rest")
                    self.assertIs(is_beginnings_answer(shape, stock, formula, one, other, ("rest", ahead[-1])), True)
                elif reader.states <= 3:
                    self.assertEqual(told, ("alike",))
                around = [(x, y) for x, y in product(all_words(2, 1), repeat=2) if has(x + one + y) != has(x + other + y)]
                told = middles_answer(shape, stock, formula, one, other)
                if around:
                    seen["within"] += 1
                    self.assertEqual(told[0], "around")
                    right = ("around", *around[-1])
                    self.assertIs(is_middles_answer(shape, stock, formula, one, other, right), True)
        self.assertGreater(min(seen.values()), 20)

    def test_answers(self):
        seen = {}
        shapes = [(THREE, STOCK, SOME), (from_the_end(3), STOCK, SOME), (by_reader(((1, 2), (3, 1), (2, 3), (0, 0)), (1, 2)), STOCK, SOME)]
        for shape, stock, formula in cases(162, 100) + shapes:
            reader = reader_of(shape, stock, formula)
            words = all_words(len(stock), 2)[:7] + [(0,) * 5]
            for one, other in product(words, words):
                told = beginnings_answer(shape, stock, formula, one, other)
                self.assertTrue(is_plain_rest(reader, one, other, told))
                self.assertIs(is_beginnings_answer(shape, stock, formula, one, other, told), True)
                seen[told[0]] = seen.get(told[0], 0) + 1
                told = middles_answer(shape, stock, formula, one, other)
                self.assertTrue(is_plain_around(reader, one, other, told))
                self.assertIs(is_middles_answer(shape, stock, formula, one, other, told), True)
                seen[told[0]] = seen.get(told[0], 0) + 1
        self.assertGreater(min(seen.values()), 50)

    def test_judged(self):
        for shape, stock, formula in [(THREE, STOCK, SOME), (SUM, STOCK, SOME), *cases(163, 12)]:
            reader = reader_of(shape, stock, formula)
            few = all_words(len(stock), 1)
            for one, other in product(few, all_words(len(stock), 2)[:5]):
                told = beginnings_answer(shape, stock, formula, one, other)
                rests = [("rest", rest) for rest in all_words(len(stock), 2)]
                for value in [*bent(told), *WRONG, *rests, ("alike",), ("rest",), ("alike", ()), ("around", (), ()), ["alike"], "alike"]:
                    wanted = is_plain_rest(reader, one, other, value)
                    self.assertIs(is_beginnings_answer(shape, stock, formula, one, other, value), wanted)
                told = middles_answer(shape, stock, formula, one, other)
                around = [("around", *words) for words in product(few, few)]
                for value in [*bent(told), *WRONG, *around, ("alike",), ("rest", ()), ("around",), ("around", ()), ("alike", ()), ["alike"]]:
                    wanted = is_plain_around(reader, one, other, value)
                    self.assertIs(is_middles_answer(shape, stock, formula, one, other, value), wanted)

    def test_long_words(self):
        rest = (0,) * 1999 + (1,)
        # Of the sum of the parts all elements are marked: a rest of 2,000 letters parts nothing, as both lack it.
        each = ("all", ("mark", 0, 0))
        long = (1,) * 2000
        self.assertIs(is_beginnings_answer(SUM, STOCK, SOME, long, (), ("rest", (0,) * 2000)), True)
        self.assertIs(is_beginnings_answer(SUM, STOCK, SOME, long, (), ("rest", (0,) * 2001)), False)
        self.assertIs(is_beginnings_answer(SUM, STOCK, SOME, long, (), ("rest", rest)), False)
        self.assertIs(is_beginnings_answer(SUM, STOCK, each, long, (0,) * 2000, ("rest", (1,) * 2000)), True)
        self.assertIs(is_middles_answer(SUM, STOCK, SOME, long, (), ("around", (0,) * 2000, (0,) * 2000)), True)
        self.assertIs(is_middles_answer(SUM, STOCK, SOME, long, (), ("around", (0,) * 2001, ())), False)
        self.assertIs(is_middles_answer(SUM, STOCK, SOME, long, (), ("around", (), (0,) * 2001)), False)
        self.assertEqual(beginnings_answer(SUM, STOCK, SOME, long, (1,)), ("alike",))
        self.assertEqual(middles_answer(SUM, STOCK, SOME, long, (0, 1)), ("alike",))
        self.assertEqual(map_of(SUM, STOCK, SOME, long), (1, 1))
        self.assertEqual(multiplied(SUM, STOCK, SOME, long, long), (1,))

    def test_one_kind(self):
        for shape, stock, formula in cases(164, 50, 3):
            depth = depth_of(shape.whole_signature, 0, formula) + shape.extra
            turned = tuple(renamed(one, tuple(range(one.size))[::-1]) for one in stock)
            stock = (*stock, *turned)
            many = len(turned)
            for one, other in ((0, many), (many - 1, 2 * many - 1)):
                self.assertEqual(plain_kind(stock[one], (), depth), plain_kind(stock[other], (), depth))
            one, other = tuple(range(many)) * 2, tuple(range(many, 2 * many)) * 2
            self.assertEqual(middles_answer(shape, stock, formula, one, other), ("alike",))
            self.assertEqual(beginnings_answer(shape, stock, formula, one, other), ("alike",))
            self.assertEqual(map_of(shape, stock, formula, one), map_of(shape, stock, formula, other))


class Lots(unittest.TestCase):
    def test_maps(self):
        for shape, stock, formula in [(THREE, STOCK, SOME), *cases(165, 80)]:
            reader = reader_of(shape, stock, formula)
            for word in [*all_words(len(stock), 3), (0, 0, len(stock) - 1) * 7]:
                self.assertEqual(map_of(shape, stock, formula, word), plain_map(reader, word))

    def test_numbers(self):
        seen = 0
        for shape, stock, formula in [(THREE, STOCK, SOME), (from_the_end(3), STOCK, SOME), *cases(166, 100)]:
            reader = reader_of(shape, stock, formula)
            firsts = {}
            for word in all_words(len(stock), 4 if len(stock) > 2 else 6):
                firsts.setdefault(plain_state(reader, word), word)
            self.assertEqual(len(firsts), reader.states)
            self.assertEqual(beginnings_number(shape, stock, formula), reader.states)
            self.assertEqual(beginnings(shape, stock, formula), tuple(firsts.values()))
            maps = plain_maps(reader)
            self.assertEqual(middles_number(shape, stock, formula), len(maps))
            self.assertEqual(middles(shape, stock, formula), tuple(maps.values()))
            seen = max(seen, len(maps))
        self.assertEqual(seen, 24)

    def test_first_words(self):
        # By all words: the first one of each lot, in their sequence.
        for shape, stock, formula in [(THREE, STOCK, SOME), *cases(167, 20)]:
            reader = reader_of(shape, stock, formula)
            firsts = {}
            for word in all_words(len(stock), 7 if len(stock) < 3 else 4):
                firsts.setdefault(plain_map(reader, word), word)
            told = middles(shape, stock, formula)
            self.assertEqual(told[:len(firsts)], tuple(firsts.values()))

    def test_multiplied(self):
        for shape, stock, formula in [(THREE, STOCK, SOME), (from_the_end(2), STOCK, SOME), *cases(168, 30)]:
            reader = reader_of(shape, stock, formula)
            maps = plain_maps(reader)
            told = middles(shape, stock, formula)
            for one, other in product([*told[:6], (0,) * 9], told[:6]):
                wanted = maps[plain_map(reader, one + other)]
                self.assertEqual(multiplied(shape, stock, formula, one, other), wanted)
            for one in told[:5]:
                self.assertEqual(multiplied(shape, stock, formula, (), one), one)
                self.assertEqual(multiplied(shape, stock, formula, one, ()), one)

    def test_many_maps(self):
        # If the last 8 letters matter, there are 255 maps of shorter words, and 256 others.
        self.assertEqual(middles_number(from_the_end(8), STOCK, SOME), 511)
        self.assertEqual(len(middles(from_the_end(8), STOCK, SOME)), 511)
        self.assertEqual(multiplied(from_the_end(8), STOCK, SOME, (1,) * 20, (0,)), (1,) * 7 + (0,))
        # Just 512 of them, and one more.
        edge = by_reader(((6, 3), (2, 3), (5, 2), (2, 1), (0, 0), (5, 4), (6, 0)), (1,))
        self.assertEqual(reader_of(edge, STOCK, SOME).states, 7)
        self.assertEqual(middles_number(edge, STOCK, SOME), 512)
        self.assertEqual(len(set(middles(edge, STOCK, SOME))), 512)
        self.assertEqual(multiplied(edge, STOCK, SOME, (0,), (1,)), (0, 1))
        over = by_reader(((3, 1), (2, 1), (4, 3), (5, 0), (4, 3), (1, 2)), (2,))
        self.assertEqual(reader_of(over, STOCK, SOME).states, 6)
        for call, words in ((middles_number, ()), (middles, ()), (multiplied, ((0,), (1,)))):
            refuses(self, TooMany, 512, call, over, STOCK, SOME, *words)
        shape = from_the_end(9)
        self.assertEqual(beginnings_number(shape, STOCK, SOME), 512)
        self.assertEqual(len(beginnings(shape, STOCK, SOME)), 512)
        for call in (middles_number, middles):
            refuses(self, TooMany, 512, call, shape, STOCK, SOME)
        refuses(self, TooMany, 512, multiplied, shape, STOCK, SOME, (), ())
        self.assertEqual(len(map_of(shape, STOCK, SOME, (1,))), 512)
        self.assertEqual(middles_answer(shape, STOCK, SOME, (1,), (0,))[0], "around")


class Refusals(unittest.TestCase):
    def test_refusals(self):
        wrong = [(0, InvalidShape, NO_SHAPES), (1, InvalidParts, NO_STOCKS), (2, InvalidFormula, NO_WHOLE_FORMULAS)]
        words = [word for word in NO_WORDS if word != ()]
        good = (SUM, STOCK, SOME)
        for call in (beginnings_number, middles_number, beginnings, middles):
            refuses_each(self, call, good, wrong)
        refuses_each(self, map_of, (*good, (0, 1)), [*wrong, (3, InvalidWord, words)])
        both = [*wrong, (3, InvalidWord, words), (4, InvalidWord, words)]
        for call in (beginnings_answer, middles_answer, multiplied):
            refuses_each(self, call, (*good, (0, 1), (1,)), both)
        for call in (is_beginnings_answer, is_middles_answer):
            refuses_each(self, call, (*good, (0, 1), (1,), ("alike",)), both)

    def test_then(self):
        extra = Shape((1, 0), SUM.domain, (some_rule((1, 0), 1, ("some", ("same", 0, 1))),), ())
        deep = (extra, STOCK, ("some", ("all", ("some", ("mark", 0, 2)))))
        many = (from_the_end(10), STOCK, SOME)
        for good, kind, kept in ((deep, Refused, ("deep",)), (many, TooMany, 512)):
            for call in (beginnings_number, middles_number, beginnings, middles):
                refuses(self, kind, kept, call, *good)
            refuses(self, kind, kept, map_of, *good, ())
            refuses(self, InvalidWord, None, map_of, *good, (2,))
            for call in (beginnings_answer, middles_answer, multiplied):
                refuses(self, kind, kept, call, *good, (), (1,))
                refuses(self, InvalidWord, None, call, *good, (), (2,))
            for call in (is_beginnings_answer, is_middles_answer):
                for value in (None, ("alike",)):
                    refuses(self, kind, kept, call, *good, (), (1,), value)

    def test_stocks(self):
        chooser = Chooser(169)
        self.assertEqual(exchange.MOST_MAPS, 512)
        for many in (1, 6):
            stock = stocks(chooser, (1, 0), many, 4)
            self.assertEqual(len(map_of(SUM, stock, SOME, (many - 1,))), reader_of(SUM, stock, SOME).states)
            self.assertEqual(beginnings(SUM, stock, SOME)[0], ())


if __name__ == "__main__":
    unittest.main()
