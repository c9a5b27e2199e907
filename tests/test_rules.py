"""Stage 11: rules."""

import unittest
from itertools import product

from tests.helpers import NO_FORMULAS, NO_NUMBERS, NO_SIGNATURES, NO_STRUCTURES, WRONG, Chooser, accepts_all, all_words
from tests.helpers import atoms_about, check_takes, cycle, line, nested, plain_letter, plainly_rules, plainly_takes, refuses
from tests.helpers import refuses_each, rows_with, some_rules
from wholebyparts.errors import InvalidFormula, InvalidNumber, InvalidParts, InvalidRow, InvalidRule, InvalidStructure
from wholebyparts.errors import TooMany
from wholebyparts.part.structures import Structure
from wholebyparts.read.readers import Reader
from wholebyparts.shape import rules
from wholebyparts.shape.rules import all_rule, both_rules, does_hold, first_rule, is_rule, letter_of, odd_rule
from wholebyparts.shape.rules import opposite_rule, rule_word, some_rule

SIGNS, MARKED = (1, 0), ("mark", 0, 0)
TWO, ONE = Structure(2, ((0,),), ()), Structure(1, ((),), ())
SOME, FIRST = some_rule(SIGNS, 1, MARKED), first_rule(SIGNS, 1, ("not", ("none", 0)), MARKED)
ODD = odd_rule(SIGNS, 1, ("none", 0))
# A rule without tests: an even number of parts.
EVENS = ((), Reader(1, ((1,), (0,)), (0,)))
NO_RULES = [
    *WRONG, (), SOME[:1], [*SOME], (*SOME, ()), (SOME[0],), (SOME[1], SOME[0]), ([MARKED], SOME[1]), (MARKED, SOME[1]),
    ((MARKED,), None), ((MARKED,), EVENS[1]), ((), SOME[1]), ((MARKED, MARKED), SOME[1]), ((("mark", 1, 0),), SOME[1]),
    ((("mark", 0, 1),), SOME[1]), ((("mark", False, 0),), SOME[1]), ((("some", ("some", ("true",))),), SOME[1]),
    ((MARKED,), cycle(13, (0,), 2)), ((MARKED,) * 4, Reader(16, ((0,) * 16,), ())), ((("some", ("mark", 0, 2)),), SOME[1]),
]


class Judged(unittest.TestCase):
    def test_constants(self):
        self.assertEqual((rules.MOST_TESTS, rules.MOST_STATES), (3, 12))

    def test_rules(self):
        chooser = Chooser(111)
        for signature, places in product(product(range(3), repeat=2), range(3)):
            for rule in some_rules(chooser, signature, places, 8, 12):
                self.assertIs(is_rule(signature, places, rule), True)
                tests, reader = rule
                near = [(tests + (("true",),), reader), (tests[:-1], reader) if tests else None, (reader, tests),
                        (list(tests), reader), [tests, reader], (tests, reader, reader), (tests, reader.steps),
                        (tests, Reader(reader.letters + 1, ((0,) * (reader.letters + 1),), ())),
                        (tests[:-1] + (("some", ("some", ("true",))),), reader) if tests else None,
                        (tests[:-1] + (("none", places),), reader) if tests else None,
                        (tests[:-1] + (("mark", signature[0], 0),), reader) if tests else None,
                        (tests[:-1] + (("same", True, 0),), reader) if tests else None,
                        (tests[:-1] + (None,), reader) if tests else None]
                for value in near:
                    self.assertIs(is_rule(signature, places, value), False)
        accepts_all(self, is_rule, SIGNS, 1, values=NO_RULES)

    def test_edges(self):
        self.assertIs(is_rule((0, 0), 0, ((), Reader(1, ((0,),), ()))), True)
        self.assertIs(is_rule((0, 0), 0, ((("true",),) * 3, Reader(8, ((0,) * 8,) * 12, (11,)))), True)
        self.assertIs(is_rule((0, 0), 0, ((("true",),) * 3, Reader(8, ((0,) * 8,) * 13, (11,)))), False)
        self.assertIs(is_rule((0, 0), 0, ((("true",),) * 4, Reader(16, ((0,) * 16,), ()))), False)
        deep = ("some", ("same", 0, 1))
        self.assertIs(is_rule((0, 0), 1, ((deep,), Reader(2, ((0, 0),), ()))), True)
        self.assertIs(is_rule((0, 0), 1, ((("not", ("and", deep, deep)),), Reader(2, ((0, 0),), ()))), True)
        self.assertIs(is_rule((0, 0), 1, ((("all", deep),), Reader(2, ((0, 0),), ()))), False)
        many = nested(lambda value: ("and", value, value), 10, ("true",))
        self.assertIs(is_rule((0, 0), 1, ((many,), Reader(2, ((0, 0),), ()))), False)

    def test_refusals(self):
        refuses_each(self, is_rule, (SIGNS, 1, SOME), [(0, InvalidNumber, NO_SIGNATURES), (1, InvalidNumber, [*NO_NUMBERS, 3])])


class Held(unittest.TestCase):
    def test_letters_and_words(self):
        chooser = Chooser(112)
        for signature, places in product(((0, 0), (1, 0), (0, 1), (2, 2)), range(3)):
            for rule in some_rules(chooser, signature, places, 12):
                parts = tuple(chooser.structure(chooser.number(4), signature) for _ in range(chooser.number(7)))
                for part in parts:
                    for row in rows_with(part, places):
                        self.assertEqual(letter_of(signature, places, rule, part, row), plain_letter(rule, part, row))
                for _ in range(5):
                    rows = tuple(chooser.row(part, places) for part in parts)
                    wanted = tuple(plain_letter(rule, part, row) for part, row in zip(parts, rows))
                    self.assertEqual(rule_word(signature, places, rule, parts, rows), wanted)
                    self.assertIs(does_hold(signature, places, rule, parts, rows), plainly_rules(rule, parts, rows))

    def test_no_tests(self):
        for many in range(7):
            self.assertIs(does_hold(SIGNS, 1, EVENS, (TWO,) * many, ((-1,),) * many), many % 2 == 0)
            self.assertEqual(rule_word(SIGNS, 0, EVENS, (TWO,) * many, ((),) * many), (0,) * many)

    def test_large_parts(self):
        large = Structure(60, ((59,),), ())
        deep = some_rule(SIGNS, 2, ("some", ("and", ("mark", 0, 2), ("not", ("same", 0, 2)))))
        self.assertEqual(letter_of(SIGNS, 2, deep, large, (-1, 0)), 1)
        self.assertEqual(rule_word(SIGNS, 2, deep, (large,) * 6, ((59, 0),) * 6), (0,) * 6)

    def test_refusals(self):
        signature, places = (0, InvalidNumber, NO_SIGNATURES), (1, InvalidNumber, [*NO_NUMBERS, 3])
        rule = (2, InvalidRule, NO_RULES)
        rows = [*WRONG, (), (0, 0), (2,), (-2,), (True,), (0, -1), [0]]
        structures = [*NO_STRUCTURES, Structure(1, (), ()), Structure(1, ((),), ((),))]
        refuses_each(self, letter_of, (SIGNS, 1, SOME, TWO, (0,)), [
            signature, places, rule, (3, InvalidStructure, structures), (4, InvalidRow, rows)])
        good = (TWO, ONE)
        parts = [*[x for x in WRONG if x != (Structure(1, (), ()),)], (Structure(1, (), ()),), (TWO,) * 7, [TWO, ONE],
                 (TWO, None), (TWO, Structure(1, (), ())), TWO]
        tuples = [*WRONG, (), ((0,),), ((0,), (0,), (0,)), [(0,), (0,)], ((0,), (1,)), ((2,), (0,)), ((0,), (True,)),
                  ((0,), ()), ((0, 0), (0, 0)), ((0,), [0]), (0, 0), ((0,), None)]
        for call in (rule_word, does_hold):
            refuses_each(self, call, (SIGNS, 1, SOME, good, ((0,), (0,))), [
                signature, places, rule, (3, InvalidParts, parts), (4, InvalidRow, tuples)])


class Made(unittest.TestCase):
    def test_words(self):
        for word in all_words(2, 6):
            for call, wanted in ((all_rule, all(word)), (some_rule, any(word)), (odd_rule, sum(word) % 2 == 1)):
                self.assertIs(plainly_takes(call(SIGNS, 1, MARKED)[1], word), bool(wanted))
        for word in all_words(4, 5):
            guarded = [letter for letter in word if letter % 2]
            self.assertIs(plainly_takes(FIRST[1], word), bool(guarded) and guarded[0] == 3)

    def test_least(self):
        for rule in (SOME, FIRST, ODD, all_rule(SIGNS, 1, MARKED)):
            reader = rule[1]
            check_takes(self, reader, 0, lambda state, letter: reader.steps[state][letter],
                        lambda state: state in reader.accepting)
        self.assertTrue(all_rule(SIGNS, 1, MARKED)[1] == Reader(2, ((1, 0), (1, 1)), (0,)))
        self.assertTrue(SOME[1] == Reader(2, ((0, 1), (1, 1)), (1,)))

    def test_tests(self):
        for places in range(3):
            for formula in [*atoms_about(SIGNS, places), ("some", ("mark", 0, places)), ("all", ("not", ("true",)))]:
                for call in (all_rule, some_rule, odd_rule):
                    rule = call(SIGNS, places, formula)
                    self.assertEqual(rule[0], (formula,))
                    self.assertIs(is_rule(SIGNS, places, rule), True)
                    self.assertEqual(first_rule(SIGNS, places, ("true",), formula)[0], (("true",), formula))
                    # Tests that do not matter, or come twice, are not left out.
                    self.assertEqual(first_rule(SIGNS, places, formula, formula)[0], (formula, formula))

    def test_no_parts(self):
        for rule, wanted in ((all_rule(SIGNS, 1, MARKED), True), (SOME, False), (ODD, False), (FIRST, False)):
            self.assertIs(does_hold(SIGNS, 1, rule, (), ()), wanted)

    def test_opposite(self):
        chooser = Chooser(113)
        for rule in [SOME, FIRST, ODD, EVENS, *some_rules(chooser, SIGNS, 1, 60, 12)]:
            tests, told = opposite_rule(SIGNS, 1, rule)
            self.assertEqual(tests, rule[0])
            check_takes(self, told, 0, lambda state, letter: rule[1].steps[state][letter],
                        lambda state: state not in rule[1].accepting)

    def test_both(self):
        chooser = Chooser(114)
        told = [SOME, FIRST, ODD, EVENS, *some_rules(chooser, SIGNS, 1, 25)]
        many = 0
        for one, other in product(told, told):
            if len(one[0]) + len(other[0]) > 3:
                refuses(self, TooMany, 3, both_rules, SIGNS, 1, one, other)
                continue

            def step(pair, letter):
                return (one[1].steps[pair[0]][letter % one[1].letters], other[1].steps[pair[1]][letter // one[1].letters])

            def accepts(pair):
                return pair[0] in one[1].accepting and pair[1] in other[1].accepting
            try:
                tests, reader = both_rules(SIGNS, 1, one, other)
            except TooMany as error:
                self.assertEqual(error.limit, 12)
                continue
            many += 1
            self.assertEqual(tests, one[0] + other[0])
            check_takes(self, reader, (0, 0), step, accepts)
        self.assertGreater(many, 100)

    def test_both_bounds(self):
        def counting(states, accepting=(0,)):
            return ((), cycle(states, accepting))
        self.assertTrue(both_rules(SIGNS, 1, counting(3), counting(4)) == counting(12))
        self.assertTrue(both_rules(SIGNS, 1, counting(12), counting(12)) == counting(12))
        refuses(self, TooMany, 12, both_rules, SIGNS, 1, counting(2), counting(7))
        refuses(self, TooMany, 12, both_rules, SIGNS, 1, counting(11), counting(12))
        self.assertTrue(both_rules(SIGNS, 1, counting(12), counting(10, (1,))) == ((), Reader(1, ((0,),), ())))
        long = ((MARKED,), line(12, (11,), 2))
        self.assertTrue(both_rules(SIGNS, 1, long, ((), Reader(1, ((0,),), (0,)))) == long)
        refuses(self, TooMany, 3, both_rules, SIGNS, 1, FIRST, FIRST)
        refuses(self, TooMany, 3, both_rules, SIGNS, 1, (FIRST[0], cycle(12, (0,), 4)), (FIRST[0], cycle(11, (0,), 4)))
        self.assertEqual(len(both_rules(SIGNS, 1, FIRST, SOME)[0]), 3)

    def test_refusals(self):
        signature, places = (0, InvalidNumber, NO_SIGNATURES), (1, InvalidNumber, [*NO_NUMBERS, 3])
        formulas = [*NO_FORMULAS, ("some", ("some", ("true",))), ("mark", 1, 0), ("mark", 0, 1), ("link", 0, 0, 0)]
        for call in (all_rule, some_rule, odd_rule):
            refuses_each(self, call, (SIGNS, 1, MARKED), [signature, places, (2, InvalidFormula, formulas)])
        refuses_each(self, first_rule, (SIGNS, 1, MARKED, MARKED), [
            signature, places, (2, InvalidFormula, formulas), (3, InvalidFormula, formulas)])
        refuses_each(self, opposite_rule, (SIGNS, 1, FIRST), [signature, places, (2, InvalidRule, NO_RULES)])
        refuses_each(self, both_rules, (SIGNS, 1, FIRST, SOME), [
            signature, places, (2, InvalidRule, NO_RULES), (3, InvalidRule, NO_RULES)])
        refuses(self, InvalidRule, None, both_rules, SIGNS, 1, FIRST, ((MARKED,) * 4, FIRST[1]))


if __name__ == "__main__":
    unittest.main()
