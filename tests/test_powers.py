"""Stage 18: copies, one behind the other."""

import unittest
from itertools import product

from tests.bending import bent, exact, is_plain_word
from tests.helpers import BIG, NO_NUMBERS, NO_SHAPES, NO_WORDS, WRONG, Chooser, all_words, plain_things
from tests.helpers import plain_whole, plainly_holds
from tests.helpers import plainly_takes, refuses, refuses_each, some_rules
from tests.test_exchange import by_reader
from tests.test_machine import NO_STOCKS, NO_WHOLE_FORMULAS, cases, from_the_end, stocks
from wholebyparts.errors import InvalidFormula, InvalidNumber, InvalidOperation, InvalidParts, InvalidShape
from wholebyparts.errors import InvalidStructure, InvalidWord, Refused, TooMany
from wholebyparts.main.machine import reader_of
from wholebyparts.main.powers import count_turns, counts_hold, is_sequence_answer, mixed_holds, mixed_power
from wholebyparts.main.powers import power_answer, power_holds, sequence_answer
from wholebyparts.part.structures import Structure, renamed
from wholebyparts.read.counts import turns
from wholebyparts.read.readers import Reader
from wholebyparts.say.formulas import depth_of
from wholebyparts.shape.rules import odd_rule, some_rule
from wholebyparts.shape.shapes import Shape, ahead_shape, first_shape, product_shape, some_shape, sum_shape

SUM, PRODUCT = sum_shape((1, 0)), product_shape((1, 0))
MARKED, NONE = Structure(1, ((0,),), ()), Structure(1, ((),), ())
STOCK = (NONE, MARKED)
SOME, TWO = ("some", ("mark", 0, 0)), ("some", ("some", ("not", ("same", 0, 1))))
ODD = Shape((1, 0), PRODUCT.domain, (odd_rule((1, 0), 1, ("mark", 0, 0)),), ())
AHEAD = ahead_shape((1, 1), 0)
EARLY = ("some", ("some", ("and", ("link", 0, 0, 1), ("mark", 0, 0))))
A, B = Structure(1, ((0,),), ((),)), Structure(1, ((),), ((),))
MOST = 10 ** 60 - 1


def round_of(row, most):
    """The least first and period of a row of answers, both at most the told number, which is far from its end."""
    pairs = [(first, period) for first in range(most + 1) for period in range(1, most + 1)
             if all(row[at] == row[at + period] for at in range(first, len(row) - period))]
    return min(pairs)


def counted(many, word):
    return tuple(word.count(letter) for letter in range(many))


def is_plain_sequence(reader, value):
    if exact(value, ("free",)):
        return all(plainly_takes(reader, one) == plainly_takes(reader, other)
                   for one in all_words(reader.letters, 5) for other in (tuple(sorted(one)), one[::-1]))
    if not isinstance(value, tuple) or len(value) != 3 or value[0] != "words":
        return False
    if not is_plain_word(reader.letters, value[1]) or not is_plain_word(reader.letters, value[2]):
        return False
    if counted(reader.letters, value[1]) != counted(reader.letters, value[2]):
        return False
    return plainly_takes(reader, value[1]) != plainly_takes(reader, value[2])


class Copies(unittest.TestCase):
    def test_by_wholes(self):
        # Wholes of 0 to 4 copies, put together.
        for shape, stock, formula in cases(181, 80):
            for times in range(5):
                size = len(plain_things(shape, (stock[0],) * times))
                if size > 60 or size ** depth_of(shape.whole_signature, 0, formula) > 4000:
                    break
                told = plain_whole(shape, (stock[0],) * times)
                wanted = plainly_holds(told, formula, ())
                self.assertIs(power_holds(shape, stock[0], formula, times), wanted)
                answers = power_answer(shape, stock[0], formula)
                self.assertIs(at_time(answers, times), wanted)

    def test_mixed_by_wholes(self):
        for shape, stock, formula in cases(182, 60, 1):
            for word in [(), (0,), (len(stock) - 1, 0)]:
                for times in range(3):
                    wanted = plainly_holds(plain_whole(shape, tuple(stock[letter] for letter in word * times)), formula, ())
                    self.assertIs(mixed_holds(shape, stock, formula, word, times), wanted)
                    self.assertIs(at_time(mixed_power(shape, stock, formula, word), times), wanted)

    def test_rounds(self):
        seen = set()
        for shape, stock, formula in [*cases(183, 80), *drawn(196, 40), (ODD, STOCK, SOME), (from_the_end(3), STOCK, SOME)]:
            reader = reader_of(shape, stock, formula)
            for word in all_words(len(stock), 2) + [(0, 0, len(stock) - 1)]:
                row = [plainly_takes(reader, word * times) for times in range(40)]
                first, period = round_of(row, 12)
                seen.add((min(first, 3), min(period, 3)))
                self.assertEqual(mixed_power(shape, stock, formula, word), (first, period, tuple(row[:first + period])))
                if len(word) == 1:
                    told = power_answer(shape, stock[word[0]], formula)
                    self.assertEqual(told, (first, period, tuple(row[:first + period])))
                    self.assertLessEqual(first + period, reader_of(shape, (stock[word[0]],), formula).states)
                for times in (0, 1, 2, 7, 39):
                    self.assertIs(mixed_holds(shape, stock, formula, word, times), row[times])
        self.assertGreater(len(seen), 4)

    def test_large_times(self):
        for shape, stock, formula in [*cases(184, 40), (ODD, STOCK, SOME)]:
            for word in all_words(len(stock), 2):
                first, period, answers = mixed_power(shape, stock, formula, word)
                for times in (10 ** 9, 10 ** 30 + 1, MOST, MOST - 1):
                    wanted = answers[first + (times - first) % period]
                    self.assertIs(mixed_holds(shape, stock, formula, word, times), wanted)
                    if len(word) == 1:
                        self.assertIs(power_holds(shape, stock[word[0]], formula, times), wanted)
        self.assertIs(power_holds(ODD, MARKED, SOME, MOST), True)
        self.assertIs(power_holds(ODD, MARKED, SOME, MOST - 1), False)
        self.assertEqual(mixed_power(SUM, STOCK, SOME, (0,) * 1999 + (1,)), (1, 1, (False, True)))

    def test_long_first(self):
        chain = by_reader(tuple((min(state + 1, 11),) * 2 for state in range(12)), (11,))
        self.assertEqual(power_answer(chain, MARKED, SOME), (11, 1, (False,) * 11 + (True,)))
        ring = by_reader(tuple(((state + 1) % 12,) * 2 for state in range(12)), (5,))
        self.assertEqual(power_answer(ring, MARKED, SOME), (0, 12, tuple(at == 5 for at in range(12))))
        self.assertIs(power_holds(ring, NONE, SOME, 10 ** 50 + 5), (10 ** 50 + 5) % 12 == 5)
        # Three at a time never come to the sixth of twelve.
        self.assertEqual(mixed_power(ring, STOCK, SOME, (0, 1, 1)), (0, 1, (False,)))

    def test_sums(self):
        # The first is at most the depth, the period 1.
        chooser = Chooser(185)
        for signature in ((1, 0), (0, 1), (1, 1)):
            for call, depths in ((sum_shape, (0, 1, 2, 3)), (product_shape, (0, 1, 2))):
                for depth in depths:
                    for _ in range(6):
                        formula = chooser.formula(signature, 0, depth, 6)
                        first, period, _ = power_answer(call(signature), chooser.structure(chooser.number(4), signature), formula)
                        self.assertEqual(period, 1)
                        if call == sum_shape:
                            self.assertLessEqual(first, depth_of(signature, 0, formula))
        self.assertEqual(power_answer(SUM, NONE, TWO), (2, 1, (False, False, True)))

    def test_no_copies(self):
        self.assertEqual(power_answer(PRODUCT, NONE, SOME), (1, 1, (True, False)))
        self.assertEqual(mixed_power(PRODUCT, STOCK, SOME, ()), (0, 1, (True,)))
        self.assertIs(power_holds(PRODUCT, NONE, SOME, 0), True)
        self.assertIs(power_holds(SUM, MARKED, SOME, 0), False)

    def test_one_kind(self):
        chooser = Chooser(186)
        for shape, stock, formula in cases(187, 40, 4):
            told = stock[0]
            other = renamed(told, chooser.order(told.size))
            self.assertEqual(power_answer(shape, told, formula), power_answer(shape, other, formula))
        # Of more elements than the depth tells.
        more = [Structure(size, (tuple(range(size)),), ()) for size in (2, 3, 4)]
        told = [power_answer(SUM, one, TWO) for one in more]
        self.assertEqual(told, [(1, 1, (False, True))] * 3)


def at_time(answers, times):
    first, period, told = answers
    return told[times if times < first else first + (times - first) % period]


class Sequences(unittest.TestCase):
    def test_answers(self):
        seen = {}
        found = [*cases(188, 120), (AHEAD, (A, B), EARLY), (first_shape((1, 1), 0), (A, B), EARLY), *drawn(195, 40)]
        for shape, stock, formula in found:
            reader = reader_of(shape, stock, formula)
            told = sequence_answer(shape, stock, formula)
            seen[told[0]] = seen.get(told[0], 0) + 1
            self.assertTrue(is_plain_sequence(reader, told))
            self.assertIs(is_sequence_answer(shape, stock, formula, told), True)
            self.assertIs(is_sequence_answer(shape, stock, formula, ("free",)), told == ("free",))
        self.assertGreater(min(seen.values()), 10)

    def test_judged(self):
        for shape, stock, formula in [(AHEAD, (A, B), EARLY), (SUM, STOCK, SOME), *cases(189, 6), *drawn(197, 6)]:
            reader = reader_of(shape, stock, formula)
            is_free = sequence_answer(shape, stock, formula) == ("free",)
            few = all_words(len(stock), 2)
            near = [("words", one, other) for one, other in product(few, few)]
            for value in [*bent(sequence_answer(shape, stock, formula)), *near, *WRONG, ("words",), ("words", ()), ["free"], "free"]:
                wanted = is_free if exact(value, ("free",)) else is_plain_sequence(reader, value)
                self.assertIs(is_sequence_answer(shape, stock, formula, value), wanted)
        long = ((0,) * 1998 + (0, 1), (0,) * 1998 + (1, 0))
        self.assertIs(is_sequence_answer(AHEAD, (A, B), EARLY, ("words", *long)), False)
        ends = by_reader(((1, 0), (1, 0)), (1,))
        self.assertIs(is_sequence_answer(ends, STOCK, SOME, ("words", *long)), True)
        self.assertIs(is_sequence_answer(ends, STOCK, SOME, ("words", (0,) + long[0], (0,) + long[1])), False)

    def test_order_free_rules(self):
        # If no rule of the shape minds the sequence, no formula does; and elsewhere it can be so, too.
        chooser = Chooser(190)
        for shape in [call((1, 1)) for call in (sum_shape, product_shape, some_shape)] + [ODD]:
            for _ in range(10):
                formula = chooser.formula(shape.whole_signature, 0, 2, 6)
                stock = stocks(chooser, shape.signature, 2, 2)
                self.assertEqual(sequence_answer(shape, stock, formula), ("free",))
        self.assertEqual(sequence_answer(AHEAD, (A, B), SOME), ("free",))
        self.assertEqual(sequence_answer(AHEAD, (A, B), EARLY)[0], "words")

    def test_turns(self):
        for shape, stock, formula in [*cases(191, 40), *drawn(198, 20), (ODD, STOCK, SOME), (AHEAD, (A, B), EARLY)]:
            reader = reader_of(shape, stock, formula)
            self.assertEqual(count_turns(shape, stock, formula), turns(reader))
            for letter, (first, period) in enumerate(count_turns(shape, stock, formula)):
                maps = [tuple(state_after_times(reader, state, letter, times) for state in range(reader.states))
                        for times in range(30)]
                pairs = [(one, other) for one in range(10) for other in range(1, 10) if maps[one] == maps[one + other]]
                self.assertEqual((first, period), min(pairs))

    def test_counts(self):
        checked = 0
        for shape, stock, formula in [*cases(192, 80), (SUM, STOCK * 3, SOME), (ODD, STOCK, SOME)]:
            reader = reader_of(shape, stock, formula)
            if sequence_answer(shape, stock, formula) != ("free",):
                refuses(self, Refused, ("order",), counts_hold, shape, stock, formula, (0,) * len(stock))
                continue
            checked += 1
            for counts in product(range(3), repeat=len(stock)):
                word = tuple(letter for letter, many in enumerate(counts) for _ in range(many))
                self.assertIs(counts_hold(shape, stock, formula, counts), plainly_takes(reader, word))
                told = count_turns(shape, stock, formula)
                large = tuple(many + period * 10 ** 40 if many >= first else many for many, (first, period) in zip(counts, told))
                self.assertIs(counts_hold(shape, stock, formula, large), plainly_takes(reader, word))
        self.assertGreater(checked, 40)
        self.assertIs(counts_hold(SUM, STOCK, SOME, (MOST, 0)), False)
        self.assertIs(counts_hold(SUM, STOCK, SOME, (MOST, MOST)), True)
        self.assertIs(counts_hold(ODD, STOCK, SOME, (0, MOST)), True)


def drawn(seed, many):
    """Shapes by drawn readers, with STOCK and SOME: mostly the sequence matters."""
    chooser = Chooser(seed)
    found = []
    for _ in range(many):
        reader = chooser.reader(2, 2 + chooser.number(5))
        found.append((by_reader(reader.steps, reader.accepting), STOCK, SOME))
    return found


def state_after_times(reader, state, letter, times):
    for _ in range(times):
        state = reader.steps[state][letter]
    return state


class Refusals(unittest.TestCase):
    def test_refusals(self):
        shapes, stocked = (0, InvalidShape, NO_SHAPES), (1, InvalidParts, NO_STOCKS)
        formulas = (2, InvalidFormula, NO_WHOLE_FORMULAS)
        words = (3, InvalidWord, [word for word in NO_WORDS if word != ()])
        one = (1, InvalidStructure, [*without_good(), Structure(5, ((),), ()), Structure(1, (), ()), B])
        times = [*NO_NUMBERS, MOST + 1]
        refuses_each(self, power_answer, (SUM, NONE, SOME), [shapes, one, formulas])
        refuses_each(self, power_holds, (SUM, NONE, SOME, 5), [shapes, one, formulas, (3, InvalidNumber, times)])
        refuses_each(self, mixed_power, (SUM, STOCK, SOME, (0, 1)), [shapes, stocked, formulas, words])
        all_of = [shapes, stocked, formulas, words, (4, InvalidNumber, times)]
        refuses_each(self, mixed_holds, (SUM, STOCK, SOME, (0, 1), 5), all_of)
        for call in (sequence_answer, count_turns):
            refuses_each(self, call, (SUM, STOCK, SOME), [shapes, stocked, formulas])
        refuses_each(self, is_sequence_answer, (SUM, STOCK, SOME, ("free",)), [shapes, stocked, formulas])
        counts = [*WRONG, (), (0,), (0, 0, 0), (-1, 0), (0, True), (False, 0), [0, 0], (0, None), (0, MOST + 1), (BIG, 0)]
        refuses_each(self, counts_hold, (SUM, STOCK, SOME, (1, 1)), [shapes, stocked, formulas, (3, InvalidOperation, counts)])

    def test_then(self):
        extra = Shape((1, 0), SUM.domain, (some_rule((1, 0), 1, ("some", ("same", 0, 1))),), ())
        three = ("some", ("all", ("some", ("mark", 0, 2))))
        for shape, formula, kind, kept in ((extra, three, Refused, ("deep",)), (from_the_end(10), SOME, TooMany, 512)):
            stocked = (shape, STOCK, formula)
            for call in (sequence_answer, count_turns):
                refuses(self, kind, kept, call, *stocked)
            for value in (None, ("free",)):
                refuses(self, kind, kept, is_sequence_answer, *stocked, value)
            refuses(self, kind, kept, mixed_power, *stocked, (0,))
            refuses(self, InvalidWord, None, mixed_power, *stocked, (2,))
            refuses(self, kind, kept, mixed_holds, *stocked, (0,), 1)
            refuses(self, InvalidNumber, -1, mixed_holds, *stocked, (0,), -1)
            refuses(self, kind, kept, counts_hold, *stocked, (1, 1))
            refuses(self, InvalidOperation, None, counts_hold, *stocked, (1,))
        refuses(self, Refused, ("deep",), power_answer, extra, NONE, three)
        refuses(self, Refused, ("deep",), power_holds, extra, NONE, three, 1)
        refuses(self, InvalidNumber, -1, power_holds, extra, NONE, three, -1)
        # What the stock of one structure needs counts, not the shape.
        self.assertEqual(power_answer(from_the_end(10), MARKED, SOME), (10, 1, (False,) * 10 + (True,)))
        many = Shape((1, 0), marks_of_cycles()[0], marks_of_cycles()[1], ())
        both = ("some", ("and", ("mark", 0, 0), ("mark", 1, 0)))
        refuses(self, TooMany, 512, power_answer, many, NONE, both)
        refuses(self, TooMany, 512, power_holds, many, NONE, both, 1)
        refuses(self, InvalidOperation, None, counts_hold, AHEAD, (A, B), EARLY, (1,))
        refuses(self, Refused, ("order",), counts_hold, AHEAD, (A, B), EARLY, (1, 1))

    def test_rules_in_turn(self):
        chooser = Chooser(193)
        for rule in some_rules(chooser, (1, 0), 1, 20, 5):
            shape = Shape((1, 0), SUM.domain, (rule,), ())
            formula = ("some", ("mark", 0, 0))
            first, period, answers = power_answer(shape, MARKED, formula)
            row = [plainly_holds(plain_whole(shape, (MARKED,) * times), formula, ()) for times in range(5)]
            self.assertEqual([at_time((first, period, answers), times) for times in range(5)], row)


def without_good():
    return [value for value in WRONG if not isinstance(value, Structure)]


def marks_of_cycles():
    """A domain that counts in fives, and marks that count in twelves and elevens."""
    told = (("none", 0),)
    domain = (told, Reader(2, tuple((5, (state + 1) % 5) for state in range(5)) + ((5, 5),), (0,)))
    return (domain, tuple((told, Reader(2, tuple((state, (state + 1) % many) for state in range(many)), (0,))) for many in (12, 11)))


if __name__ == "__main__":
    unittest.main()
