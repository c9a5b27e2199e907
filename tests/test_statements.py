"""The main statements, over parts of several stages at once."""

import unittest
from itertools import product

from tests.helpers import Chooser, all_words, plain_whole, plainly_holds, some_shapes
from tests.test_machine import stocks
from wholebyparts.errors import TooMany
from wholebyparts.house.desk import Desk
from wholebyparts.judge.claims import answered, is_claim, opposite, takes
from wholebyparts.kinds.games import book_answer, is_book_answer
from wholebyparts.kinds.kinds import kind, same_kind, told
from wholebyparts.kinds.parting import formula_of, is_parting_answer, least_depth, parting_answer
from wholebyparts.main.asked import agree_answer, always_answer, how_many, some_word
from wholebyparts.main.exchange import beginnings, beginnings_answer, map_of, middles, middles_answer
from wholebyparts.main.gaps import gap_answer, gap_for, gap_formula, is_gap_formula
from wholebyparts.main.machine import answer, classes, reader_of
from wholebyparts.main.powers import counts_hold, mixed_power, power_answer, power_holds, sequence_answer
from wholebyparts.main.reduction import is_reduction, reduced_word, reduction_of, set_reduction_of
from wholebyparts.main.wholekinds import is_same_whole_answer, part_kinds, same_whole_answer, whole_kind
from wholebyparts.part.structures import Structure, renamed
from wholebyparts.read.making import alike_answer, is_alike_answer
from wholebyparts.read.readers import Reader, takes as reads
from wholebyparts.read.sets import is_set_formula_of, set_formula
from wholebyparts.say.formulas import depth_of, opposite as opposite_formula
from wholebyparts.say.meaning import holds
from wholebyparts.shape.shapes import ahead_shape, product_shape, sum_shape
from wholebyparts.shape.wholes import holds_in, things, whole
from wholebyparts.text.texts import formula_text, read_formula, read_reader, read_structure, reader_text, structure_text

SUM, PRODUCT = sum_shape((1, 0)), product_shape((1, 0))
SOME = ("some", ("mark", 0, 0))


def cases(seed, many, most=2):
    """Shapes, stocks of two, formulas that are not too deep, and the depth with the extra."""
    chooser = Chooser(seed)
    found = []
    for shape in some_shapes(chooser, many):
        stock = stocks(chooser, shape.signature, 2, most)
        formula = chooser.formula(shape.whole_signature, 0, min(2, 3 - shape.extra), 2 + chooser.number(10))
        found.append((shape, stock, formula))
    return found


def whole_depth(shape, formula):
    return depth_of(shape.whole_signature, 0, formula)


def may(call, *args):
    """The answer, None for one of the errors that may come."""
    try:
        return call(*args)
    except TooMany:
        return None


class OneReader(unittest.TestCase):
    def test_all_ways(self):
        # By the reader, by the things, by the whole, by its kind, by a reduction, at a desk, between parts: all the same.
        seen = {"kind": 0, "reduction": 0, "gap": 0, "whole": 0}
        for shape, stock, formula in cases(241, 60):
            depth = whole_depth(shape, formula)
            reduction = may(reduction_of, shape, formula)
            desk = Desk(shape, stock)
            desk.keep("f", formula)
            for word in all_words(2, 3):
                parts = tuple(stock[letter] for letter in word)
                wanted = answer(shape, stock, formula, word)
                self.assertIs(holds_in(shape, parts, formula), wanted)
                if len(things(shape, parts)) <= 20:
                    seen["whole"] += 1
                    self.assertIs(holds(whole(shape, parts), 0, formula, ()), wanted)
                found = may(whole_kind, shape, part_kinds(shape, parts, depth), depth)
                if found is not None:
                    seen["kind"] += 1
                    self.assertIs(told(shape.whole_signature, 0, found, formula), wanted)
                if reduction is not None:
                    seen["reduction"] += 1
                    self.assertIs(reads(reduction[1], reduced_word(shape.signature, reduction[0], parts)), wanted)
                for place in range(len(word)):
                    desk.put(place, word[place])
                self.assertIs(desk.holds("f"), wanted)
                if word:
                    self.assertEqual(0 in desk.fitting("f", 0), answer(shape, stock, formula, (0,) + word[1:]))
                    desk.undo(calls=len(word))
                    self.assertEqual(word[0] in gap_answer(shape, stock, formula, (), word[1:]), wanted)
                    gap = may(gap_formula, shape, formula, (), parts[1:])
                    if gap is not None:
                        seen["gap"] += 1
                        self.assertIs(holds(parts[0], 0, gap, ()), wanted)
        self.assertGreater(min(seen.values()), 300)

    def test_exchanged_kinds(self):
        for shape, stock, formula in cases(242, 40, 4):
            chooser = Chooser(243)
            turned = tuple(renamed(one, chooser.order(one.size)) for one in stock)
            self.assertTrue(reader_of(shape, stock, formula) == reader_of(shape, turned, formula))
            both = stock + turned
            lots = classes(shape, both, whole_depth(shape, formula))
            for lot in lots:
                self.assertEqual(len({map_of(shape, both, formula, (letter,)) for letter in lot}), 1)
            # A kind has a formula, which just this kind has.
            depth = whole_depth(shape, formula) + shape.extra
            if depth <= 1:
                for one, other in product(both, both):
                    found = may(formula_of, shape.signature, 0, kind(one, (), depth))
                    if found is not None:
                        self.assertIs(holds(other, 0, found, ()), same_kind(one, (), other, (), depth))


class EitherOr(unittest.TestCase):
    def test_words(self):
        chooser = Chooser(244)
        seen = {}
        for shape, stock, formula in cases(245, 60):
            second = chooser.formula(shape.whole_signature, 0, min(2, 3 - shape.extra), 8)
            one, other = reader_of(shape, stock, formula), reader_of(shape, stock, second)
            found = agree_answer(shape, stock, formula, second)
            word = alike_answer(one, other)
            self.assertEqual(found == ("agree",), word[0] == "alike")
            self.assertEqual(found == ("agree",), always_answer(shape, stock, same(formula, second)) == ("always",))
            if found[0] == "word":
                self.assertIs(is_alike_answer(one, other, found), True)
            self.assertEqual(some_word(shape, stock, ("not", same(formula, second))), None if found == ("agree",) else found[1])
            told_for = answered(("agree", shape, stock, formula, second))
            self.assertEqual(told_for[0][0], "agree" if found == ("agree",) else "parted")
            self.assertIs(takes(opposite(told_for[0]), told_for[1]), False)
            self.assertEqual(how_many(shape, stock, formula, 6) + how_many(shape, stock, opposite_formula(shape.whole_signature, 0, formula), 6), 64)
            seen[found[0]] = seen.get(found[0], 0) + 1
        self.assertGreater(min(seen.values()), 10)

    def test_beginnings(self):
        seen = {}
        for shape, stock, formula in cases(246, 60):
            firsts = beginnings(shape, stock, formula)
            for one, other in product(firsts, firsts):
                found = beginnings_answer(shape, stock, formula, one, other)
                self.assertEqual(found == ("alike",), one == other)
                if found[0] == "rest":
                    told_both = [answer(shape, stock, formula, word + found[1]) for word in (one, other)]
                    self.assertNotEqual(*told_both)
            lots = may(middles, shape, stock, formula) or ()
            for one, other in product(lots[:6], lots[:6]):
                found = middles_answer(shape, stock, formula, one, other)
                seen[found[0]] = seen.get(found[0], 0) + 1
                self.assertEqual(found == ("alike",), one == other)
                if found[0] == "around":
                    told_both = [answer(shape, stock, formula, found[1] + word + found[2]) for word in (one, other)]
                    self.assertNotEqual(*told_both)
        self.assertGreater(min(seen.values()), 30)


def same(first, second):
    """What says that both formulas hold, or neither."""
    return ("or", ("and", first, second), ("and", ("not", first), ("not", second)))


class Kinds(unittest.TestCase):
    def test_wholes(self):
        # Books, trees, formulas and kinds of two wholes, put together and not.
        seen = {}
        chooser = Chooser(247)
        for shape in some_shapes(chooser, 120):
            one, other = [stocks(chooser, shape.signature, chooser.number(3), 2) for _ in range(2)]
            depth = chooser.number(4 - shape.extra)
            if max(len(things(shape, parts)) for parts in (one, other)) > 6:
                continue
            wholes = [whole(shape, parts) for parts in (one, other)]
            is_same = same_kind(wholes[0], (), wholes[1], (), depth)
            found = same_whole_answer(shape, one, other, depth)
            seen[found[0]] = seen.get(found[0], 0) + 1
            self.assertEqual(found == ("alike",), is_same)
            self.assertIs(is_parting_answer(wholes[0], (), wholes[1], (), depth, found), True)
            parting = may(parting_answer, wholes[0], (), wholes[1], (), depth)
            if parting is not None:
                self.assertIs(is_same_whole_answer(shape, one, other, depth, parting), True)
            book = book_answer(wholes[0], (), wholes[1], (), depth)
            self.assertEqual(book[0] == "book", is_same)
            self.assertIs(is_book_answer(wholes[0], (), wholes[1], (), depth, book), True)
            claim = ("alike", wholes[0], (), wholes[1], (), depth)
            self.assertIs(is_claim(claim), True)
            self.assertEqual(answered(claim)[0][0], "alike" if is_same else "apart")
            if found[0] == "formula":
                self.assertIs(takes(opposite(claim), found), True)
                self.assertLessEqual(least_depth(wholes[0], (), wholes[1], ()), depth)
        self.assertGreater(min(seen.values()), 15)

    def test_parts_of_one_kind(self):
        # Parts of one kind of the depth and the extra have wholes of one kind; of a lesser depth not always.
        chain = [Structure(size, (), (tuple((a, b) for a in range(size) for b in range(size) if a < b),)) for size in (2, 3, 4)]
        shape = sum_shape((0, 1))
        self.assertIs(same_kind(chain[0], (), chain[1], (), 1), True)
        self.assertIs(same_kind(chain[0], (), chain[1], (), 2), False)
        self.assertEqual(same_whole_answer(shape, (chain[0], chain[0]), (chain[1], chain[0]), 1), ("alike",))
        self.assertEqual(same_whole_answer(shape, (chain[0], chain[0]), (chain[1], chain[0]), 2)[0], "formula")
        ahead = ahead_shape((0, 1), 0)
        self.assertEqual(same_whole_answer(ahead, (chain[1],), (chain[2],), 2), ("alike",))
        self.assertEqual(same_whole_answer(ahead, (chain[1], chain[0]), (chain[2], chain[0]), 2), ("alike",))


class Reductions(unittest.TestCase):
    def test_sets(self):
        # A reader's question is a question about sets of places.
        checked = 0
        for shape, stock, formula in cases(248, 60):
            reduction = may(reduction_of, shape, formula)
            sets = may(set_reduction_of, shape, formula)
            if sets is None:
                continue
            checked += 1
            self.assertEqual(sets[0], reduction[0])
            self.assertIs(is_set_formula_of(reduction[1], sets[1]), True)
            self.assertIs(is_reduction(shape, stock, formula, reduction), True)
            reader = reader_of(shape, stock, formula)
            if reader.states <= 4:
                found = set_formula(reader)
                self.assertIs(is_set_formula_of(reader, found), True)
        self.assertGreater(checked, 30)

    def test_last_part(self):
        # If all parts but one are known, a formula about the whole is one formula about the last part.
        checked = 0
        for shape, stock, formula in cases(249, 50, 3):
            for ahead, behind in ((stock, ()), (stock[:1], stock[1:]), ((), stock)):
                found = may(gap_formula, shape, formula, ahead, behind)
                if found is None:
                    continue
                checked += 1
                self.assertIs(may(is_gap_formula, shape, stock, formula, ahead, behind, found) in (True, None), True)
                before, after = tuple(range(len(ahead))), tuple(range(len(ahead), 2))
                fitting = gap_answer(shape, stock, formula, before, after)
                self.assertEqual(fitting, tuple(index for index in range(2) if holds(stock[index], 0, found, ())))
                for index in fitting:
                    self.assertEqual(gap_for(shape, stock, formula, index)[0], "gap")
        self.assertGreater(checked, 100)


class Copies(unittest.TestCase):
    def test_round(self):
        for shape, stock, formula in cases(250, 60):
            first, period, answers = power_answer(shape, stock[0], formula)
            self.assertEqual(mixed_power(shape, stock, formula, (0,)), (first, period, answers))
            for times in range(6):
                wanted = answers[times if times < first else first + (times - first) % period]
                self.assertIs(answer(shape, stock, formula, (0,) * times), wanted)
                self.assertIs(power_holds(shape, stock[0], formula, times + period * 10 ** 40 if times >= first else times), wanted)
                if sequence_answer(shape, stock, formula) == ("free",):
                    self.assertIs(counts_hold(shape, stock, formula, (times, 0)), wanted)
                    self.assertIs(counts_hold(shape, stock, formula, (times, 1)), answer(shape, stock, formula, (1,) + (0,) * times))

    def test_sums_of_kinds(self):
        # From as many copies on as the depth is, the kind of the sum stays, and with it all formulas.
        chooser = Chooser(251)
        for _ in range(20):
            part = chooser.structure(chooser.number(3), (1, 0))
            for depth in (1, 2):
                self.assertEqual(same_whole_answer(SUM, (part,) * depth, (part,) * (depth + 2), depth), ("alike",))
                formula = chooser.formula((1, 0), 0, depth, 6)
                self.assertLessEqual(power_answer(SUM, part, formula)[0], depth)


class Untrue(unittest.TestCase):
    """What the document says is untrue: an example against each of these."""

    def test_main_ones(self):
        marked, bare = Structure(1, ((0,),), ()), Structure(1, ((),), ())
        unlike = ("some", ("some", ("not", ("same", 0, 1))))
        two = Structure(2, ((0,),), ())
        # A formula that holds in all parts need not hold in their product, nor one of the whole in some part.
        neither = ("not", unlike)
        self.assertIs(holds(two, 0, ("and", SOME, ("some", ("not", ("mark", 0, 0)))), ()), True)
        self.assertIs(holds_in(SUM, (marked, marked), neither), False)
        self.assertEqual([holds(part, 0, neither, ()) for part in (marked, marked)], [True, True])
        self.assertIs(holds_in(SUM, (marked, bare), unlike), True)
        odd = ("or", ("not", SOME), ("all", ("mark", 0, 0)))
        self.assertIs(holds_in(PRODUCT, (marked, bare), odd), True)
        # Wholes of parts of one kind of a depth can be unlike at a greater one.
        self.assertEqual(same_whole_answer(SUM, (marked,), (Structure(2, ((0, 1),), ()),), 1), ("alike",))
        self.assertEqual(same_whole_answer(SUM, (marked,), (Structure(2, ((0, 1),), ()),), 2)[0], "formula")
        # In another sequence the parts make another whole.
        early = ("some", ("some", ("and", ("link", 0, 0, 1), ("mark", 0, 0))))
        told_apart = [Structure(1, ((0,),), ((),)), Structure(1, ((),), ((),))]
        shape = ahead_shape((1, 1), 0)
        self.assertEqual([holds_in(shape, tuple(parts), early) for parts in (told_apart, told_apart[::-1])], [True, False])


class Texts(unittest.TestCase):
    def test_what_is_told(self):
        # Texts of what other stages made.
        for shape, stock, formula in cases(252, 30):
            reader = reader_of(shape, stock, formula)
            self.assertTrue(read_reader(reader_text(reader)) == reader)
            parts = (stock[0],) * 2
            if len(things(shape, parts)) <= 20:
                told_whole = plain_whole(shape, parts)
                self.assertTrue(read_structure(structure_text(whole(shape, parts))) == told_whole)
                self.assertIs(plainly_holds(told_whole, read_formula(shape.whole_signature, 0, formula_text(shape.whole_signature, 0, formula)), ()),
                              answer(shape, stock, formula, (0, 0)))
            reduction = may(reduction_of, shape, formula)
            for one in reduction[0] if reduction else ():
                self.assertEqual(read_formula(shape.signature, 0, formula_text(shape.signature, 0, one)), one)
        self.assertTrue(Reader(1, ((0,),), ()) == read_reader("reader 1 1\nstep 0\naccepting\n"))


if __name__ == "__main__":
    unittest.main()
