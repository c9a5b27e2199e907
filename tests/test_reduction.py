"""Stage 17: questions to the parts."""

import unittest
from itertools import product
from unittest import mock

from tests.bending import bent, exact
from tests.helpers import NO_FORMULAS, NO_SHAPES, NO_SIGNATURES, WRONG, Chooser, all_words, atoms_about, nested, of_nodes
from tests.helpers import plain_kind, plain_things, plainly_holds, plainly_takes, refuses, refuses_each, some_shapes
from tests.helpers import structures_of
from tests.test_machine import NO_STOCKS, NO_WHOLE_FORMULAS, from_the_end, stocks
from wholebyparts.errors import InvalidFormula, InvalidNumber, InvalidParts, InvalidShape, Refused, TooMany
from wholebyparts.kinds.parting import formula_of
from wholebyparts.main import reduction
from wholebyparts.main.machine import reader_of
from wholebyparts.main.reduction import is_reduction, is_set_reduction, reduced_word, reduction_of, set_reduction_of
from wholebyparts.part.structures import Structure
from wholebyparts.read.readers import Reader
from wholebyparts.read.setforms import SetLevels
from wholebyparts.read.sets import holds_at, set_formula
from wholebyparts.say.formulas import depth_of, is_formula, nodes_of
from wholebyparts.shape.rules import all_rule, some_rule
from wholebyparts.shape.shapes import Shape, ahead_shape, first_shape, opposite_link, product_shape, some_shape, sum_shape
from wholebyparts.shape.wholes import holds_in

SUM, PRODUCT = sum_shape((1, 0)), product_shape((1, 0))
MARKED, NONE, BOTH = Structure(1, ((0,),), ()), Structure(1, ((),), ()), Structure(2, ((1,),), ())
EMPTY = Structure(0, ((),), ())
STOCK = (MARKED, NONE, BOTH, EMPTY)
SOME, EACH = ("some", ("mark", 0, 0)), ("all", ("mark", 0, 0))
CASES = (SOME, ("not", SOME))
# Takes words of the letter 0 alone; words with some letter 0.
ALL, ONCE = Reader(2, ((0, 1), (1, 1)), (0,)), Reader(2, ((1, 0), (1, 1)), (1,))
MEETS = ("some", ("and", ("single", 0), ("letter", 0, 0)))
MAY = (64, 512, 2000)


def drawn(seed, many, nodes=8):
    """Shapes with formulas about their wholes, not too deep."""
    chooser = Chooser(seed)
    found = []
    for shape in some_shapes(chooser, many):
        depth = chooser.number(4 - shape.extra)
        found.append((shape, chooser.formula(shape.whole_signature, 0, depth, 1 + 3 * depth + chooser.number(nodes))))
    return found


def plain_depth(shape, formula):
    return depth_of(shape.whole_signature, 0, formula)


def told_or_may(test, call, shape, formula):
    """The answer; None if it raises what it may."""
    try:
        return call(shape, formula)
    except TooMany as error:
        test.assertIn(error.limit, MAY)
        test.assertGreater(plain_depth(shape, formula), 0)
        return None


def plain_case(structure, formulas):
    """The index of the only formula that holds."""
    found = [index for index, formula in enumerate(formulas) if plainly_holds(structure, formula, ())]
    return found[0] if len(found) == 1 else None


def is_plainly_right(shape, stock, formula, value, longest=5):
    """Whether the value is a reduction that is right on the stock: all words up to some length are tried."""
    if not isinstance(value, tuple) or len(value) != 2 or not isinstance(value[1], Reader):
        return False
    table = plain_table(shape, stock, formula, value[0])
    if table is None or value[1].letters != len(value[0]):
        return False
    wanted = reader_of(shape, stock, formula)
    return all(plainly_takes(value[1], tuple(table[letter] for letter in word)) == plainly_takes(wanted, word)
               for word in all_words(len(stock), longest))


def plain_table(shape, stock, formula, formulas):
    if not isinstance(formulas, tuple) or not 1 <= len(formulas) <= 64:
        return None
    depth = plain_depth(shape, formula) + shape.extra
    for told in formulas:
        if not is_formula(shape.signature, 0, told) or depth_of(shape.signature, 0, told) > depth:
            return None
    table = [plain_case(structure, formulas) for structure in stock]
    return None if None in table else table


class Told(unittest.TestCase):
    def check(self, shape, formula, told, chooser):
        """Right on stocks, and of parts that no stock names; of few and of many elements."""
        formulas, reader = told
        self.assertTrue(1 <= len(formulas) <= 64)
        self.assertEqual(reader.letters, len(formulas))
        depth = plain_depth(shape, formula) + shape.extra
        for one in formulas:
            self.assertTrue(is_formula(shape.signature, 0, one))
            self.assertLessEqual(depth_of(shape.signature, 0, one), depth)
        stock = stocks(chooser, shape.signature, 4, 3)
        try:
            self.assertIs(is_reduction(shape, stock, formula, told), True)
        except TooMany as error:
            self.assertEqual(error.limit, 512)
        for most in (3, 6, 9):
            parts = stocks(chooser, shape.signature, chooser.number(4), most)
            things = plain_things(shape, parts) if most == 3 else []
            if len(things) ** plain_depth(shape, formula) > 4096:
                continue
            word = tuple(plain_case(part, formulas) for part in parts)
            self.assertEqual(word, reduced_word(shape.signature, formulas, parts))
            try:
                self.assertIs(plainly_takes(reader, word), holds_in(shape, parts, formula))
            except TooMany:
                self.assertGreater(most, 3)

    def test_drawn(self):
        chooser = Chooser(171)
        seen = {}
        for shape, formula in drawn(172, 300):
            told = told_or_may(self, reduction_of, shape, formula)
            key = (plain_depth(shape, formula), told is not None)
            seen[key] = seen.get(key, 0) + 1
            if told is not None:
                self.check(shape, formula, told, chooser)
        self.assertGreater(min(seen[(depth, True)] for depth in range(4)), 20)

    def test_well_known_shapes(self):
        chooser = Chooser(173)
        shapes = [call((1, 1)) for call in (sum_shape, product_shape, some_shape)]
        shapes += [call((1, 1), 0) for call in (ahead_shape, first_shape)] + [opposite_link(shapes[0], 0)]
        formulas = [
            ("some", ("link", 0, 0, 0)), ("all", ("some", ("link", 0, 0, 1))), ("some", ("all", ("link", 0, 1, 0))),
            ("some", ("some", ("and", ("link", 0, 0, 1), ("not", ("same", 0, 1))))),
            ("all", ("all", ("or", ("same", 0, 1), ("link", 0, 0, 1)))), ("and", SOME, ("not", EACH)),
            ("some", ("and", ("mark", 0, 0), ("all", ("or", ("link", 0, 0, 1), ("not", ("mark", 0, 1)))))),
        ]
        answered = 0
        for shape, formula in product(shapes, formulas):
            told = told_or_may(self, reduction_of, shape, formula)
            if told is not None:
                answered += 1
                self.check(shape, formula, told, chooser)
        self.assertGreater(answered, 30)

    def test_large_parts(self):
        # Parts of 40 elements: the whole of one or two of them can still be asked.
        chooser = Chooser(174)
        for shape in (SUM, PRODUCT, sum_shape((1, 1)), product_shape((0, 1)), ahead_shape((1, 1), 0)):
            links = [("some", ("link", 0, 0, 0))] if shape.signature[1] else []
            marks = [SOME, EACH, ("and", SOME, ("not", EACH))] if shape.signature[0] else []
            for formula in [*links, *marks, ("some", ("true",)), ("all", ("not", ("true",)))]:
                formulas, reader = reduction_of(shape, formula)
                for sizes in ((40,), (40, 40), (0, 40), (39, 1, 2)):
                    parts = tuple(chooser.structure(size, shape.signature) for size in sizes)
                    word = reduced_word(shape.signature, formulas, parts)
                    self.assertIs(plainly_takes(reader, word), holds_in(shape, parts, formula))

    def test_depth_nothing(self):
        # Neither long tests nor many of them matter.
        tests = (of_nodes(1999), nested(lambda value: ("not", value), 99, ("true",)), ("all", ("link", 1, 0, 2)))
        rule = (tests, Reader(8, ((0,) * 8,), (0,)))
        domain = (tests[:2], Reader(4, ((0,) * 4,), (0,)))
        shape = Shape((2, 2), domain, (domain, domain), (rule, rule))
        for formula in (("true",), ("not", ("true",)), ("or", ("true",), ("not", ("true",))), nested(lambda x: ("not", x), 99, ("true",))):
            formulas, reader = reduction_of(shape, formula)
            self.assertIs(is_reduction(shape, (Structure(1, ((), ()), ((), ())),), formula, (formulas, reader)), True)
            formulas, question = set_reduction_of(shape, formula)
            self.assertIs(is_set_reduction(shape, (Structure(1, ((), ()), ((), ())),), formula, (formulas, question)), True)

    def test_deepest(self):
        two = ("some", ("some", ("not", ("same", 0, 1))))
        three = ("some", ("some", ("some", ("and", ("not", ("same", 0, 1)), ("not", ("or", ("same", 0, 2), ("same", 1, 2)))))))
        for shape in (sum_shape((0, 0)), product_shape((0, 0)), SUM, PRODUCT):
            for formula, least in ((two, 2), (three, 3)):
                formulas, reader = reduction_of(shape, formula)
                for sizes in product((0, 1, 2, 3, 7), repeat=2):
                    parts = tuple(Structure(size, ((),) * shape.signature[0], ()) for size in sizes)
                    many = sum(sizes) if shape in (sum_shape((0, 0)), SUM) else sizes[0] * sizes[1]
                    word = reduced_word(shape.signature, formulas, parts)
                    self.assertIs(plainly_takes(reader, word), many >= least)


def padded(chooser, test, places, nodes=90):
    """A formula that says the same with about so many nodes, many of them within one another."""
    while nodes_of((2, 1), places, test) <= nodes - 5:
        atom = chooser.one_of(atoms_about((2, 1), places))
        more = [("and", test, ("or", atom, ("not", atom))), ("or", ("and", atom, ("not", atom)), test),
                ("not", ("not", test)), ("and", test, ("true",))]
        test = chooser.one_of(more)
    return test


def few_tests(seed, many):
    """Shapes whose domain and named rules have at most two tests together, and formulas of the depth 1."""
    chooser = Chooser(seed)
    bases = [("mark", 0, 0), ("mark", 1, 0), ("link", 0, 0, 0), ("none", 0)]
    found = []
    for _ in range(many):
        shares = chooser.one_of([(2, 0, 0), (1, 1, 0), (1, 0, 1), (0, 2, 0), (0, 0, 2), (0, 1, 1)])
        rules = []
        for many_tests, places in zip(shares, (1, 1, 2)):
            deeper = [("some", ("link", 0, 0, places)), ("some", ("link", 0, places, 0)), ("all", ("mark", 1, places)),
                      ("some", ("and", ("mark", 0, places), ("not", ("same", 0, places))))]
            tests = tuple(padded(chooser, chooser.one_of(bases + deeper), places) for _ in range(many_tests))
            rules.append((tests, chooser.reader(2 ** many_tests, 2 + chooser.number(2))))
        # Of other rules nothing is asked, however many tests they have.
        other = (tuple(("some", ("link", 0, 0, 1)) for _ in range(3)), Reader(8, ((0,) * 8,), ()))
        shape = Shape((2, 1), rules[0], (rules[1], other), (rules[2],))
        named = [("true",)] + ([("mark", 0, 0)] if shares[1] or shares[0] == 2 else []) + ([("link", 0, 0, 0)] if shares[2] else [])
        found.append((shape, asked_once(chooser, named, 1 + chooser.number(5))))
    return found


def asked_once(chooser, atoms, size):
    """A formula of the depth 1 with these atoms."""
    if size <= 1:
        body = chooser.one_of(atoms)
        for _ in range(chooser.number(3)):
            body = chooser.one_of([("not", body), ("and", body, chooser.one_of(atoms)), ("or", chooser.one_of(atoms), body)])
        return (chooser.one_of(["some", "all"]), body)
    word = chooser.one_of(["not", "and", "or"])
    if word == "not":
        return (word, asked_once(chooser, atoms, size - 1))
    return (word, asked_once(chooser, atoms, size // 2), asked_once(chooser, atoms, size // 2))


class Promised(unittest.TestCase):
    def test_few_tests(self):
        # Neither TooMany(64) nor TooMany(2000) may come.
        chooser = Chooser(175)
        seen = set()
        for shape, formula in few_tests(176, 250):
            try:
                formulas, reader = reduction_of(shape, formula)
            except TooMany as error:
                self.assertEqual(error.limit, 512)
                continue
            seen.add(len(formulas))
            for _ in range(3):
                parts = stocks(chooser, (2, 1), chooser.number(4), 3)
                word = reduced_word((2, 1), formulas, parts)
                self.assertIs(plainly_takes(reader, word), holds_in(shape, parts, formula))
        self.assertGreater(len(seen), 5)

    def test_most_formulas(self):
        # Both tests hang on more than the member: all 64 cases come, and are told apart.
        tests = (padded(Chooser(177), ("some", ("link", 0, 0, 1)), 1), padded(Chooser(178), ("some", ("link", 0, 1, 0)), 1))
        steps = tuple(tuple((state * 3 + letter * 2 + 1) % 5 for letter in range(4)) for state in range(5))
        for accepting in ((0,), (1, 3)):
            shape = Shape((2, 1), (tests, Reader(4, steps, accepting)), (), ())
            formula = ("some", ("true",))
            formulas, reader = reduction_of(shape, formula)
            self.assertLessEqual(len(formulas), 64)
            chooser = Chooser(179)
            for _ in range(30):
                parts = stocks(chooser, (2, 1), chooser.number(4), 5)
                word = reduced_word((2, 1), formulas, parts)
                self.assertIs(plainly_takes(reader, word), holds_in(shape, parts, formula))

    def test_each_case_told(self):
        # If what tells few large lots of cases is too long, each case is told: 64 of them, one for each sight of a part.
        def choice(mark, link):
            return ("or", ("and", ("none", 0), ("some", ("mark", mark, 1))), ("and", ("not", ("none", 0)), ("some", link)))

        chooser = Chooser(182)
        tests = (padded(chooser, choice(0, ("link", 0, 0, 1)), 1), padded(chooser, choice(1, ("link", 0, 1, 0)), 1))
        shape = Shape((2, 1), (tests, Reader(4, ((1, 2, 0, 2), (2, 0, 1, 0), (0, 1, 2, 2)), (0, 1))), (), ())
        formula = ("some", ("true",))
        whole_lots = reduction_of(shape, formula)
        longest = max(nodes_of((2, 1), 0, told) for told in whole_lots[0])
        self.assertLess(len(whole_lots[0]), 64)
        with mock.patch("wholebyparts.main.deciding.MOST_NODES", longest - 1):
            each = reduction_of(shape, formula)
        self.assertEqual(len(each[0]), 64)
        self.assertLess(max(nodes_of((2, 1), 0, told) for told in each[0]), longest)
        for _ in range(40):
            parts = stocks(chooser, (2, 1), chooser.number(4), 4)
            for formulas, reader in (whole_lots, each):
                word = reduced_word((2, 1), formulas, parts)
                self.assertIs(plainly_takes(reader, word), holds_in(shape, parts, formula))

    def test_set_reductions(self):
        # For both shapes every question of the depth 1 is answered: it asks which kinds of elements there are.
        marked, bare = SOME, ("some", ("not", ("mark", 0, 0)))
        kinds = [("and", one, other) for one in (marked, ("not", marked)) for other in (bare, ("not", bare))]
        for shape in (SUM, PRODUCT, Shape((1, 0), PRODUCT.domain, PRODUCT.marks, ())):
            for lot in product((False, True), repeat=4):
                formula = ("not", ("true",))
                for kind, is_in in zip(kinds, lot):
                    formula = ("or", formula, kind) if is_in else formula
                told = set_reduction_of(shape, formula)
                self.assertIs(is_set_reduction(shape, STOCK, formula, told), True)
                self.check_words(shape, formula, told)
                self.assertIs(is_reduction(shape, STOCK, formula, reduction_of(shape, formula)), True)

    def check_words(self, shape, formula, told):
        formulas, question = told
        for word in all_words(4, 2):
            parts = tuple(STOCK[letter] for letter in word)
            cases = tuple(plain_case(part, formulas) for part in parts)
            # The formula can have more nodes than may be handed in.
            told = SetLevels(len(formulas), cases, ()).answers(question)[0]
            self.assertIs(told, holds_in(shape, parts, formula))

    def test_drawn_set_reductions(self):
        answered = 0
        chooser = Chooser(180)
        for shape, formula in drawn(181, 60):
            try:
                told = set_reduction_of(shape, formula)
            except TooMany as error:
                self.assertIn(error.limit, (*MAY, 4, 8))
                continue
            answered += 1
            stock = stocks(chooser, shape.signature, 3, 3)
            self.assertIs(is_set_reduction(shape, stock, formula, told), True)
        self.assertGreater(answered, 30)


def other_reductions():
    """Right ones for PRODUCT, SOME that the program did not make."""
    kinds = []
    for structure in [*structures_of(0, (1, 0)), *structures_of(1, (1, 0)), *structures_of(2, (1, 0))]:
        told = plain_kind(structure, (), 1)
        if told not in kinds:
            kinds.append(told)
    by_kinds = tuple(formula_of((1, 0), 0, told) for told in kinds)
    steps = [tuple(0 if plainly_has_mark(told) else 1 for told in kinds), (1,) * len(kinds)]
    found = [(CASES, ALL), (CASES[::-1], Reader(2, ((1, 0), (1, 1)), (0,))), (by_kinds, Reader(len(kinds), tuple(steps), (0,)))]
    # Not the least reader, with states that are not met.
    found.append((CASES, Reader(2, ((1, 2), (0, 2), (3, 3), (2, 2), (4, 0)), (0, 1, 4))))
    # With cases that never come.
    found.append(((*CASES, ("and", SOME, ("not", SOME))), Reader(3, ((0, 1, 0), (1, 1, 0)), (0,))))
    found.append(((("not", ("true",)),) * 62 + CASES, Reader(64, ((0,) * 63 + (1,), (1,) * 64), (0,))))
    return found


def plainly_has_mark(kind):
    return any(member[0][2] == ((0,),) for member in kind[1])


class Judged(unittest.TestCase):
    def test_other_ones(self):
        for value in other_reductions():
            self.assertTrue(is_plainly_right(PRODUCT, STOCK, SOME, value))
            self.assertIs(is_reduction(PRODUCT, STOCK, SOME, value), True)
            self.assertIs(is_reduction(PRODUCT, STOCK[:2], SOME, value), True)
        self.assertIs(is_reduction(SUM, STOCK, SOME, (CASES, ONCE)), True)
        self.assertIs(is_reduction(SUM, STOCK, SOME, (CASES, ALL)), False)
        # Other structures are not asked.
        self.assertIs(is_reduction(SUM, (MARKED,), SOME, ((("true",),), Reader(1, ((1,), (1,)), (1,)))), True)
        self.assertIs(is_reduction(SUM, (MARKED, NONE), SOME, ((("true",),), Reader(1, ((1,), (1,)), (1,)))), False)
        self.assertIs(is_reduction(PRODUCT, (MARKED, BOTH), SOME, ((SOME, EACH), Reader(2, ((0, 0),), (0,)))), False)
        self.assertIs(is_reduction(PRODUCT, (MARKED, BOTH), SOME, ((SOME, ("not", ("true",))), Reader(2, ((0, 0),), (0,)))), True)

    def test_near_ones(self):
        stock = (MARKED, NONE, BOTH)
        values = [*WRONG, *bent((CASES, ALL)), (CASES,), (CASES, ALL, ALL), (ALL, CASES), [CASES, ALL], (list(CASES), ALL),
                  ((), Reader(1, ((0,),), (0,))), (CASES, Reader(3, ((0, 1, 0), (1, 1, 1)), (0,))), (CASES, Reader(1, ((0,),), (0,))),
                  (CASES, Reader(2, ((0, 1), (1, 1)), ())), (CASES, Reader(2, ((0, 1), (1, 0)), (0,))),
                  (CASES * 2, Reader(4, ((0, 1, 0, 1), (1,) * 4), (0,))), (CASES, MEETS), (CASES, (2, ((0, 1), (1, 1)), (0,)))]
        # 65 formulas are too many, and one of too great a depth is wrong, also if it says the same.
        never = ("not", ("true",))
        values.append(((never,) * 62 + CASES, Reader(64, ((0,) * 63 + (1,), (1,) * 64), ())))
        deep = ("some", ("some", ("mark", 0, 0)))
        values.append(((deep, ("not", deep)), ALL))
        values.append(((SOME, ("not", ("mark", 0, 0))), ALL))
        right = 0
        for value in values:
            wanted = is_plainly_right(PRODUCT, stock, SOME, value)
            right += wanted
            self.assertIs(is_reduction(PRODUCT, stock, SOME, value), wanted)
        # What is bent at a place that does not matter can still be right.
        self.assertLess(right, 5)
        # 64 letters are the most that a reader has, so that 65 formulas come with no reader for them.
        self.assertIs(is_reduction(PRODUCT, stock, SOME, ((never,) * 63 + CASES, Reader(64, ((0,) * 64,), ()))), False)

    def test_depth_with_the_extra(self):
        deep = some_rule((1, 0), 1, ("some", ("mark", 0, 1)))
        shape = Shape((1, 0), SUM.domain, (deep,), ())
        told = ("some", ("some", ("mark", 0, 1)))
        value = ((told, ("not", told)), Reader(2, ((1, 0), (1, 1)), (1,)))
        self.assertIs(is_reduction(shape, STOCK, SOME, reduction_of(shape, SOME)), True)
        self.assertEqual(is_reduction(shape, STOCK, SOME, value), is_plainly_right(shape, STOCK, SOME, value))
        deeper = ("some", ("some", ("some", ("mark", 0, 2))))
        self.assertIs(is_reduction(shape, STOCK, SOME, ((deeper, ("not", deeper)), value[1])), False)

    def test_drawn(self):
        chooser = Chooser(182)
        seen = {True: 0, False: 0}
        for shape, formula in drawn(183, 60):
            told = told_or_may(self, reduction_of, shape, formula)
            if told is None or plain_depth(shape, formula) > 2:
                continue
            formulas, reader = told
            stock = stocks(chooser, shape.signature, 2, 2)
            other = chooser.reader(len(formulas), reader.states)
            turned = tuple(state for state in range(reader.states) if state not in reader.accepting)
            for value in ((formulas, other), (formulas, Reader(reader.letters, reader.steps, turned)), (formulas[::-1], reader)):
                try:
                    found = is_reduction(shape, stock, formula, value)
                except TooMany:
                    continue
                seen[found] += 1
                self.assertIs(found, is_plainly_right(shape, stock, formula, value, 6))
        self.assertGreater(min(seen.values()), 10)

    def test_sets(self):
        closed = ("some", ("and", ("single", 0), ("letter", 1, 0)))
        right = (CASES, ("not", closed))
        self.assertIs(is_set_reduction(PRODUCT, STOCK, SOME, right), True)
        self.assertIs(is_set_reduction(SUM, STOCK, SOME, (CASES, MEETS)), True)
        self.assertIs(is_set_reduction(SUM, STOCK, SOME, right), False)
        self.assertIs(is_set_reduction(PRODUCT, STOCK, SOME, (CASES, set_formula(ALL))), True)
        self.assertIs(is_set_reduction(PRODUCT, STOCK, SOME, (CASES, ("not", ("not", ("not", closed))))), True)
        # More nodes than can be handed in elsewhere, 2,000 at most.
        for many, wanted in ((8, True), (9, False)):
            long = nested(lambda value: ("or", value, value), many, ("not", closed))
            self.assertIs(is_set_reduction(PRODUCT, STOCK, SOME, (CASES, long)), wanted)
        never = ("not", ("true",))
        for many, wanted in ((6, True), (7, False)):
            # A set formula has at most 8 letters.
            self.assertIs(is_set_reduction(PRODUCT, STOCK, SOME, (CASES + (never,) * many, ("not", closed))), wanted)
        near = [*WRONG, *[value for value in bent(right) if not exact(value, right)], (CASES, ALL), (CASES,), (CASES, ("single", 0)),
                (CASES, ()), (CASES[:1], right[1]), (CASES, ("not", ("some", ("letter", 2, 0)))), ((), right[1]), [*right]]
        told = [value for value in near if is_set_reduction(PRODUCT, STOCK, SOME, value)]
        for value in told:
            # A bent one may say the same: then the words are all right.
            self.assertTrue(all(
                holds_at(len(value[0]), tuple(plain_case(STOCK[letter], value[0]) for letter in word), (), value[1])
                == plainly_takes(reader_of(PRODUCT, STOCK, SOME), word) for word in all_words(4, 3)))
        self.assertLess(len(told), 3)


class Words(unittest.TestCase):
    def test_reduced_word(self):
        chooser = Chooser(184)
        for shape, formula in drawn(185, 60):
            told = told_or_may(self, reduction_of, shape, formula)
            if told is not None:
                parts = stocks(chooser, shape.signature, chooser.number(7), 5)
                word = reduced_word(shape.signature, told[0], parts)
                self.assertEqual(word, tuple(plain_case(part, told[0]) for part in parts))
        self.assertEqual(reduced_word((1, 0), CASES, ()), ())
        self.assertEqual(reduced_word((1, 0), CASES, (MARKED,) * 6), (0,) * 6)
        self.assertEqual(reduced_word((1, 0), (("true",),), (MARKED, NONE)), (0, 0))
        never = ("not", ("true",))
        self.assertEqual(reduced_word((1, 0), (never,) * 62 + CASES, (MARKED, NONE)), (62, 63))

    def test_case(self):
        refuses(self, Refused, ("case", 0), reduced_word, (1, 0), (("true",), SOME), (MARKED,))
        refuses(self, Refused, ("case", 1), reduced_word, (1, 0), (("true",), SOME), (NONE, MARKED))
        refuses(self, Refused, ("case", 2), reduced_word, (1, 0), CASES[:1], (MARKED, BOTH, NONE, EMPTY))
        refuses(self, Refused, ("case", 5), reduced_word, (1, 0), CASES[:1], (MARKED,) * 5 + (NONE,))
        self.assertEqual(reduced_word((1, 0), (("true",), SOME), ()), ())

    def test_many(self):
        deep = ("some", ("some", ("some", ("same", 0, 2))))
        three, large = (("or", deep, ("true",)),), Structure(36, ((),), ())
        self.assertEqual(reduced_word((1, 0), three, (large,)), (0,))
        for size in (37, 60):
            refuses(self, TooMany, 50000, reduced_word, (1, 0), three, (MARKED, Structure(size, ((),), ())))
        self.assertEqual(reduced_word((1, 0), (("some", ("some", ("true",))), ("not", ("some", ("some", ("true",))))), (Structure(60, ((),), ()),)), (0,))
        # It comes ahead of a part with more than one case.
        refuses(self, TooMany, 50000, reduced_word, (1, 0), (three[0], ("true",)), (MARKED, Structure(37, ((),), ())))


NO_PARTS = [*[x for x in WRONG if x != ()], [MARKED], (MARKED,) * 7, (MARKED, None), MARKED, (MARKED, Structure(1, (), ()))]


class Refusals(unittest.TestCase):
    def test_refusals(self):
        shapes, stocked = (0, InvalidShape, NO_SHAPES), (1, InvalidParts, NO_STOCKS)
        for call in (reduction_of, set_reduction_of):
            refuses_each(self, call, (SUM, SOME), [shapes, (1, InvalidFormula, NO_WHOLE_FORMULAS)])
        formulas = (2, InvalidFormula, NO_WHOLE_FORMULAS)
        for call, value in ((is_reduction, (CASES, ONCE)), (is_set_reduction, (CASES, MEETS))):
            refuses_each(self, call, (SUM, STOCK, SOME, value), [shapes, stocked, formulas])
        wrong = [*[(value,) for value in NO_FORMULAS], *WRONG, (), SOME, [*CASES], (("true",),) * 65, (("mark", 0, 0),),
                 (SOME, ("some", ("mark", 1, 0)))]
        wrong_words = [(0, InvalidNumber, NO_SIGNATURES), (1, InvalidFormula, wrong), (2, InvalidParts, NO_PARTS)]
        refuses_each(self, reduced_word, ((1, 0), CASES, (MARKED, NONE)), wrong_words)

    def test_then(self):
        self.assertEqual(reduction.MOST_FORMULAS, 64)
        extra = Shape((1, 0), SUM.domain, (all_rule((1, 0), 1, ("some", ("same", 0, 1))),), ())
        three = ("some", ("all", ("some", ("mark", 0, 2))))
        for call in (reduction_of, set_reduction_of):
            refuses(self, Refused, ("deep",), call, extra, three)
        for call in (is_reduction, is_set_reduction):
            for value in (None, (CASES, ALL)):
                refuses(self, Refused, ("deep",), call, extra, STOCK, three, value)
                refuses(self, TooMany, 512, call, from_the_end(10), (NONE, MARKED), SOME, value)
        self.assertTrue(is_formula((1, 0), 0, reduction_of(SUM, three)[0][0]))

    def test_many_states(self):
        # A reader of 1,024 states.
        refuses(self, TooMany, 512, reduction_of, from_the_end(10), SOME)


if __name__ == "__main__":
    unittest.main()
