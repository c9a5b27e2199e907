"""Stage 19: a part that is not known."""

import unittest
from itertools import product

from tests.bending import bent, exact, is_plain_word
from tests.helpers import NO_FORMULAS, NO_NUMBERS, NO_SHAPES, NO_WORDS, WRONG, Chooser, all_words, plain_state
from tests.helpers import plain_things, plain_whole, plainly_holds, plainly_takes, refuses, refuses_each, structures_of
from tests.test_exchange import by_reader
from tests.test_machine import NO_STOCKS, NO_WHOLE_FORMULAS, cases, from_the_end, stocks
from tests.test_reduction import MAY, drawn, few_tests, plain_depth
from wholebyparts.errors import InvalidFormula, InvalidNumber, InvalidParts, InvalidShape, InvalidWord, Refused, TooMany
from wholebyparts.main.gaps import gap_answer, gap_for, gap_formula, is_gap_for, is_gap_formula
from wholebyparts.main.machine import reader_of
from wholebyparts.part.structures import Structure
from wholebyparts.say.formulas import depth_of, is_formula
from wholebyparts.shape.rules import some_rule
from wholebyparts.shape.shapes import Shape, product_shape, sum_shape
from wholebyparts.shape.wholes import holds_in

SUM, PRODUCT = sum_shape((1, 0)), product_shape((1, 0))
MARKED, BARE, EMPTY = Structure(1, ((0,),), ()), Structure(1, ((),), ()), Structure(0, ((),), ())
STOCK = (MARKED, BARE, EMPTY)
SOME, EACH = ("some", ("mark", 0, 0)), ("all", ("mark", 0, 0))
ENDS = by_reader(((1, 0), (1, 0)), (1,))


def plainly_fits(shape, formula, ahead, structure, behind):
    """Whether the structure fits, by the whole put together; None if this is too large."""
    parts = (*ahead, structure, *behind)
    things = len(plain_things(shape, parts))
    if things > 60 or things ** plain_depth(shape, formula) > 4096:
        return None
    return plainly_holds(plain_whole(shape, parts), formula, ())


def is_plain_gap(reader, index, value):
    """Whether the value is right as the answer about the structure with the index."""
    if exact(value, ("never",)):
        ways = [(state, rest) for state in range(reader.states) for rest in all_words(reader.letters, 4)]
        return not any(taken_from(reader, reader.steps[state][index], rest) for state, rest in ways)
    if not isinstance(value, tuple) or len(value) != 3 or value[0] != "gap":
        return False
    if not is_plain_word(reader.letters, value[1]) or not is_plain_word(reader.letters, value[2]):
        return False
    return plainly_takes(reader, value[1] + (index,) + value[2])


def taken_from(reader, state, rest):
    for letter in rest:
        state = reader.steps[state][letter]
    return state in reader.accepting


class Answers(unittest.TestCase):
    def test_by_wholes(self):
        for shape, stock, formula in cases(191, 80, 2):
            for before, after in product(all_words(len(stock), 1), repeat=2):
                told = gap_answer(shape, stock, formula, before, after)
                self.assertEqual(list(told), sorted(set(told)))
                for index in range(len(stock)):
                    fits = plainly_fits(shape, formula, [stock[x] for x in before], stock[index], [stock[x] for x in after])
                    if fits is not None:
                        self.assertEqual(index in told, fits)

    def test_by_readers(self):
        for shape, stock, formula in [(ENDS, (BARE, MARKED), SOME), (from_the_end(3), (BARE, MARKED), SOME), *cases(192, 60)]:
            reader = reader_of(shape, stock, formula)
            for before, after in product(all_words(len(stock), 2), repeat=2):
                wanted = tuple(index for index in range(len(stock)) if plainly_takes(reader, before + (index,) + after))
                self.assertEqual(gap_answer(shape, stock, formula, before, after), wanted)
                others = tuple(index for index in range(len(stock)) if index not in wanted)
                self.assertEqual(gap_answer(shape, stock, ("not", formula), before, after), others)

    def test_and(self):
        chooser = Chooser(193)
        for shape, stock, formula in cases(194, 30):
            second = chooser.formula(shape.whole_signature, 0, min(2, 3 - shape.extra), 6)
            for before, after in product(all_words(len(stock), 1), repeat=2):
                one, other = [set(gap_answer(shape, stock, told, before, after)) for told in (formula, second)]
                self.assertEqual(set(gap_answer(shape, stock, ("and", formula, second), before, after)), one & other)

    def test_long_words(self):
        self.assertEqual(gap_answer(SUM, STOCK, SOME, (1,) * 2000, (2,) * 2000), (0,))
        self.assertEqual(gap_answer(SUM, STOCK, EACH, (0,) * 2000, (0,) * 2000), (0, 2))
        self.assertIs(is_gap_for(SUM, STOCK, SOME, 1, ("gap", (1,) * 2000, (0,) * 2000)), True)
        self.assertIs(is_gap_for(SUM, STOCK, SOME, 1, ("gap", (1,) * 2001, (0,))), False)
        self.assertIs(is_gap_for(SUM, STOCK, SOME, 1, ("gap", (1,), (0,) * 2001)), False)

    def test_gap_for(self):
        seen = {}
        found = [(ENDS, (BARE, MARKED), SOME), (SUM, STOCK, EACH), (SUM, (BARE,), SOME), (PRODUCT, (EMPTY,), SOME), *cases(195, 100)]
        for shape, stock, formula in found:
            reader = reader_of(shape, stock, formula)
            for index in range(len(stock)):
                told = gap_for(shape, stock, formula, index)
                seen[told[0]] = seen.get(told[0], 0) + 1
                self.assertTrue(is_plain_gap(reader, index, told))
                self.assertIs(is_gap_for(shape, stock, formula, index, told), True)
                self.assertIs(is_gap_for(shape, stock, formula, index, ("never",)), told == ("never",))
        self.assertGreater(min(seen.values()), 20)
        # What must have just three parts behind it: no shorter rest is taken.
        shape = by_reader(((0, 1), (2, 1), (3, 1), (4, 1), (0, 1)), (4,))
        told = gap_for(shape, (BARE, MARKED), SOME, 1)
        self.assertEqual((told[0], told[2]), ("gap", (0, 0, 0)))
        self.assertIs(is_gap_for(shape, (BARE, MARKED), SOME, 1, told), True)
        far = gap_for(from_the_end(9), (BARE, MARKED), SOME, 0)
        self.assertTrue(is_plain_gap(reader_of(from_the_end(9), (BARE, MARKED), SOME), 0, far))

    def test_gap_judged(self):
        for shape, stock, formula in [(ENDS, (BARE, MARKED), SOME), (SUM, STOCK, EACH), (SUM, STOCK, SOME), *cases(196, 12)]:
            reader = reader_of(shape, stock, formula)
            few = all_words(len(stock), 1)
            for index in range(len(stock)):
                near = [("gap", before, after) for before, after in product(few, few)]
                near += [("never", ()), ("gap",), ("gap", ()), ["never"], "never", ("gap", (len(stock),), ()), ("gap", (), (-1,))]
                for value in [*WRONG, *near, *bent(gap_for(shape, stock, formula, index))]:
                    self.assertIs(is_gap_for(shape, stock, formula, index, value), is_plain_gap(reader, index, value))


class Formulas(unittest.TestCase):
    def check(self, shape, formula, ahead, behind, told, asked):
        """The formula holds in just those of the structures that fit."""
        self.assertTrue(is_formula(shape.signature, 0, told))
        self.assertLessEqual(depth_of(shape.signature, 0, told), plain_depth(shape, formula) + shape.extra)
        checked = 0
        for structure in asked:
            fits = plainly_fits(shape, formula, ahead, structure, behind)
            if fits is not None:
                checked += 1
                self.assertIs(plainly_holds(structure, told, ()), fits)
        return checked

    def test_drawn(self):
        chooser = Chooser(197)
        answered = {depth: 0 for depth in range(4)}
        for shape, formula in drawn(198, 200):
            ahead, behind = [stocks(chooser, shape.signature, chooser.number(3), 2) for _ in range(2)]
            try:
                told = gap_formula(shape, formula, ahead, behind)
            except TooMany as error:
                self.assertIn(error.limit, MAY)
                continue
            asked = stocks(chooser, shape.signature, 6, 4) + stocks(chooser, shape.signature, 2, 8)
            answered[plain_depth(shape, formula)] += self.check(shape, formula, ahead, behind, told, asked)
            stock = stocks(chooser, shape.signature, 6, 4)
            try:
                self.assertIs(is_gap_formula(shape, stock, formula, ahead, behind, told), True)
            except TooMany as error:
                self.assertEqual(error.limit, 512)
        self.assertGreater(min(answered.values()), 50)

    def test_small_depths(self):
        # Whatever stands around, for both shapes there is an answer; all structures of up to three elements are asked.
        asked = [one for size in range(4) for one in structures_of(size, (1, 0))]
        large = [Structure(40, (lot,), ()) for lot in ((), (39,), tuple(range(40)), tuple(range(0, 40, 2)))]
        marked, bare = SOME, ("some", ("not", ("mark", 0, 0)))
        formulas = [("true",), ("not", ("true",)), SOME, EACH, bare, ("and", marked, bare), ("or", ("not", marked), ("not", bare)),
                    ("and", marked, ("not", bare)), ("or", ("and", marked, bare), ("and", ("not", marked), ("not", bare)))]
        few = [(), (MARKED,), (BARE,), (EMPTY,), (MARKED, BARE), (Structure(4, ((1, 2),), ()),), (BARE, BARE, MARKED)]
        for shape, formula, ahead, behind in product((SUM, PRODUCT), formulas, few, few[:5]):
            told = gap_formula(shape, formula, ahead, behind)
            self.check(shape, formula, ahead, behind, told, asked)
            for structure in large:
                wanted = holds_in(shape, (*ahead, structure, *behind), formula)
                self.assertIs(plainly_holds(structure, told, ()), wanted)
            self.assertIs(is_gap_formula(shape, STOCK, formula, ahead, behind, told), True)

    def test_most_parts(self):
        for many in range(6):
            ahead, behind = (BARE,) * many, (BARE,) * (5 - many)
            told = gap_formula(SUM, SOME, ahead, behind)
            self.check(SUM, SOME, ahead, behind, told, [*STOCK, Structure(5, ((4,),), ())])
            self.assertIs(is_gap_formula(SUM, STOCK, SOME, ahead, behind, told), True)
            for call, around in ((gap_formula, ()), (is_gap_formula, (SOME,))):
                stocked = (SUM, STOCK, SOME) if around else (SUM, SOME)
                refuses(self, InvalidParts, None, call, *stocked, ahead + (BARE,), behind, *around)
                refuses(self, InvalidParts, None, call, *stocked, ahead, behind + (BARE,), *around)
        self.assertIs(is_gap_formula(SUM, (MARKED,) * 6, SOME, (MARKED,) * 2, (BARE,) * 3, ("true",)), True)

    def test_few_tests(self):
        chooser = Chooser(199)
        for shape, formula in few_tests(200, 60):
            ahead, behind = [stocks(chooser, (2, 1), chooser.number(2), 2) for _ in range(2)]
            try:
                told = gap_formula(shape, formula, ahead, behind)
            except TooMany as error:
                self.assertIn(error.limit, (512, 2000))
                continue
            for structure in stocks(chooser, (2, 1), 6, 6):
                wanted = holds_in(shape, (*ahead, structure, *behind), formula)
                self.assertIs(plainly_holds(structure, told, ()), wanted)

    def test_judged(self):
        chooser = Chooser(201)
        seen = {True: 0, False: 0}
        for shape, stock, formula in [(SUM, STOCK, SOME), (PRODUCT, STOCK, EACH), (ENDS, STOCK, SOME), *cases(202, 30, 2)]:
            ahead, behind = [stocks(chooser, shape.signature, chooser.number(2), 2) for _ in range(2)]
            reader = reader_of(shape, stock + ahead + behind, formula)
            many = len(stock)
            before, after = tuple(range(many, many + len(ahead))), tuple(range(many + len(ahead), reader.letters))
            fitting = [plainly_takes(reader, before + (index,) + after) for index in range(many)]
            near = [("true",), ("not", ("true",)), SOME, EACH, ("not", SOME), ("some", ("true",)), ("none", 0), ("mark", 0, 0), ("some",)]
            near += [chooser.formula(shape.signature, 0, depth, 6) for depth in (0, 1, 2, 3)]
            near += [("some", ("some", ("some", ("some", ("true",))))), *NO_FORMULAS]
            try:
                told = gap_formula(shape, formula, ahead, behind)
                near += [told, ("not", told), ("not", ("not", told)), *bent(told)[:20]]
            except TooMany:
                pass
            for value in [*WRONG, *near]:
                wanted = is_formula(shape.signature, 0, value) and [plainly_holds(one, value, ()) for one in stock] == fitting
                seen[wanted] += 1
                self.assertIs(is_gap_formula(shape, stock, formula, ahead, behind, value), wanted)
        self.assertGreater(seen[True], 30)

    def test_other_formulas(self):
        # Of any depth, and only the stock is asked.
        deep = ("some", ("some", ("some", ("mark", 0, 2))))
        self.assertIs(is_gap_formula(SUM, STOCK, SOME, (BARE,), (), deep), True)
        self.assertIs(is_gap_formula(SUM, STOCK, SOME, (BARE,), (), ("and", deep, ("some", ("mark", 0, 0)))), True)
        self.assertIs(is_gap_formula(SUM, (MARKED,), SOME, (), (), ("true",)), True)
        self.assertIs(is_gap_formula(SUM, (MARKED, BARE), SOME, (), (), ("true",)), False)

    def test_one_kind(self):
        # Structures of one kind fit alike, of whatever size.
        chooser = Chooser(203)
        for shape in (SUM, PRODUCT):
            for _ in range(10):
                formula = chooser.formula((1, 0), 0, 1, 6)
                ahead, behind = [stocks(chooser, (1, 0), chooser.number(2), 2) for _ in range(2)]
                told = gap_formula(shape, formula, ahead, behind)
                for one, other in ((Structure(2, ((0,),), ()), Structure(30, ((3, 7),), ())), (MARKED, Structure(50, (tuple(range(50)),), ()))):
                    self.assertIs(plainly_holds(one, told, ()), plainly_holds(other, told, ()))
                    self.assertIs(holds_in(shape, (*ahead, one, *behind), formula), holds_in(shape, (*ahead, other, *behind), formula))


NO_AROUND = [*[x for x in WRONG if x != ()], [MARKED], (MARKED, None), (Structure(5, ((),), ()),), MARKED, (MARKED, Structure(1, (), ())),
             (Structure(1, ((),), ((),)),)]


class Refusals(unittest.TestCase):
    def test_refusals(self):
        shapes, stocked = (0, InvalidShape, NO_SHAPES), (1, InvalidParts, NO_STOCKS)
        formulas = (2, InvalidFormula, NO_WHOLE_FORMULAS)
        words = [word for word in NO_WORDS if word != ()]
        two = (SUM, (MARKED, BARE), SOME)
        both = [shapes, stocked, formulas, (3, InvalidWord, words), (4, InvalidWord, words)]
        refuses_each(self, gap_answer, (*two, (0, 1), (1,)), both)
        indices = (3, InvalidNumber, [*NO_NUMBERS, 2])
        refuses_each(self, gap_for, (*two, 1), [shapes, stocked, formulas, indices])
        refuses_each(self, is_gap_for, (*two, 1, ("never",)), [shapes, stocked, formulas, indices])
        around = [(InvalidParts, NO_AROUND)] * 2
        wrong = [shapes, (1, InvalidFormula, NO_WHOLE_FORMULAS)] + [(2 + at, *told) for at, told in enumerate(around)]
        refuses_each(self, gap_formula, (SUM, SOME, (MARKED,), (BARE,)), wrong)
        wrong = [shapes, stocked, formulas] + [(3 + at, *told) for at, told in enumerate(around)]
        refuses_each(self, is_gap_formula, (*two, (MARKED,), (BARE,), SOME), wrong)

    def test_then(self):
        extra = Shape((1, 0), SUM.domain, (some_rule((1, 0), 1, ("some", ("same", 0, 1))),), ())
        deep = (extra, STOCK, ("some", ("all", ("some", ("mark", 0, 2)))))
        many = (from_the_end(10), (BARE, MARKED), SOME)
        for good, kind, kept in ((deep, Refused, ("deep",)), (many, TooMany, 512)):
            refuses(self, kind, kept, gap_answer, *good, (), (0,))
            refuses(self, InvalidWord, None, gap_answer, *good, (), (3,))
            refuses(self, kind, kept, gap_for, *good, 0)
            refuses(self, InvalidNumber, 3, gap_for, *good, 3)
            for value in (None, ("never",), SOME):
                refuses(self, kind, kept, is_gap_for, *good, 0, value)
                refuses(self, kind, kept, is_gap_formula, *good, (), (MARKED,), value)
                refuses(self, InvalidParts, None, is_gap_formula, *good, (MARKED,) * 3, (MARKED,) * 3, value)
        refuses(self, Refused, ("deep",), gap_formula, extra, deep[2], (), ())
        refuses(self, InvalidParts, None, gap_formula, extra, deep[2], (MARKED,) * 6, ())
        refuses(self, InvalidParts, None, gap_formula, extra, deep[2], (), (MARKED,) * 6)
        # The parts around count, too: over BARE alone the reader has one state.
        refuses(self, TooMany, 512, is_gap_formula, from_the_end(10), (BARE,), SOME, (MARKED,), (), SOME)
        self.assertEqual(gap_answer(from_the_end(10), (BARE,), SOME, (), ()), ())
        self.assertEqual(plain_state(reader_of(SUM, STOCK, SOME), (1, 2)), 0)


if __name__ == "__main__":
    unittest.main()
