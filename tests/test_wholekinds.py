"""Stage 20: kinds of wholes."""

import unittest
from itertools import product

from tests.bending import bent, exact
from tests.helpers import NO_FORMULAS, NO_NUMBERS, NO_SHAPES, WRONG, Chooser, atoms_about, plain_kind, plain_things
from tests.helpers import plain_whole, plainly_holds, refuses, refuses_each, some_shapes, structures_of
from tests.test_machine import stocks
from tests.test_reduction import NO_PARTS
from wholebyparts.errors import InvalidKind, InvalidNumber, InvalidParts, InvalidShape, Refused, TooMany
from wholebyparts.kinds.kinds import is_kind, kind
from wholebyparts.main.wholekinds import is_same_whole_answer, part_kinds, same_whole_answer, whole_kind
from wholebyparts.part.structures import Structure, renamed
from wholebyparts.say.formulas import depth_of, is_formula
from wholebyparts.shape.rules import all_rule, odd_rule, some_rule
from wholebyparts.shape.shapes import Shape, ahead_shape, first_shape, opposite_link, product_shape, some_shape, sum_shape
from wholebyparts.shape.wholes import holds_in

POINT, BARE, TWO = Structure(1, ((0,),), ()), Structure(1, ((),), ()), Structure(2, ((0,),), ())
EMPTY = Structure(0, ((),), ())
P, S, R = product_shape((1, 0)), sum_shape((1, 0)), some_shape((1, 0))
MARKED, PLAIN = kind(POINT, (), 1), kind(BARE, (), 1)
UNLIKE = ("some", ("some", ("not", ("same", 0, 1))))
# The extra of this shape is 1: things are marked if their part has a marked element.
DEEP = Shape((1, 0), S.domain, (some_rule((1, 0), 1, ("and", ("not", ("none", 0)), ("some", ("mark", 0, 1)))),), ())


def known_shapes():
    """Shapes of all forms that have names, with a mark and a link."""
    found = [call((1, 1)) for call in (product_shape, sum_shape, some_shape)]
    found += [call((1, 1), 0) for call in (ahead_shape, first_shape)]
    found += [opposite_link(shape, 0) for shape in found]
    deep = ("some", ("and", ("link", 0, 0, 1), ("mark", 0, 1)))
    extra = Shape((1, 1), found[1].domain, (odd_rule((1, 1), 1, deep),), (all_rule((1, 1), 2, ("all", ("or", ("link", 0, 1, 2), ("none", 0)))),))
    return found + [extra]


def small_whole(shape, parts):
    """The whole, None if it is too large to be asked plainly."""
    return plain_whole(shape, parts) if len(plain_things(shape, parts)) <= 9 else None


def doubled(structure):
    """The structure with each element twice: no depth of 1 tells it from the structure, if it has no link."""
    size = structure.size
    marks = tuple(tuple(sorted([*mark, *[member + size for member in mark]])) for mark in structure.marks)
    return Structure(2 * size, marks, ())


def is_plain_answer(shape, wholes, depth, value):
    """Whether the value is right for two wholes that are put together."""
    if exact(value, ("alike",)):
        return plain_kind(wholes[0], (), depth) == plain_kind(wholes[1], (), depth)
    if not isinstance(value, tuple) or len(value) != 2 or not exact(value[0], "formula"):
        return False
    if not is_formula(shape.whole_signature, 0, value[1]) or depth_of(shape.whole_signature, 0, value[1]) > depth:
        return False
    return plainly_holds(wholes[0], value[1], ()) and not plainly_holds(wholes[1], value[1], ())


class Kinds(unittest.TestCase):
    def check(self, shape, parts, depth):
        """The kind of the whole is the one that the whole has; whether that could be seen."""
        told = small_whole(shape, parts)
        if told is None:
            return 0
        kinds = part_kinds(shape, parts, depth)
        self.assertEqual(kinds, tuple(plain_kind(part, (), depth + shape.extra) for part in parts))
        try:
            found = whole_kind(shape, kinds, depth)
        except TooMany as error:
            self.assertEqual(error.limit, 4096)
            many = 1
            for one in kinds:
                many *= len(one[1])
            self.assertGreater(many ** depth, 4096)
            return 0
        self.assertEqual(found, plain_kind(told, (), depth))
        return 1

    def test_known_shapes(self):
        chooser = Chooser(201)
        checked = 0
        for shape in known_shapes():
            for depth in range(4 - shape.extra):
                for many in (0, 1, 2, 2, 3):
                    checked += self.check(shape, stocks(chooser, (1, 1), many, 2), depth)
        self.assertGreater(checked, 120)

    def test_drawn_shapes(self):
        chooser = Chooser(202)
        checked = {0: 0, 1: 0}
        for shape in some_shapes(chooser, 200):
            parts = stocks(chooser, shape.signature, chooser.number(4), 3)
            checked[shape.extra] += self.check(shape, parts, chooser.number(4 - shape.extra))
        self.assertGreater(min(checked.values()), 50)

    def test_no_parts(self):
        self.assertEqual(whole_kind(P, (), 1), MARKED)
        for depth in range(4):
            self.assertEqual(whole_kind(P, (), depth), plain_kind(POINT, (), depth))
            self.assertEqual(whole_kind(S, (), depth), plain_kind(EMPTY, (), depth))
            self.assertEqual(whole_kind(R, (), depth), plain_kind(BARE, (), depth))
        self.assertEqual(part_kinds(P, (), 2), ())

    def test_none_at_all_places(self):
        # A thing that is none everywhere is an element of the whole, and no none of it.
        for parts in ((), (POINT,), (BARE, POINT), (EMPTY,), (EMPTY, TWO)):
            for depth in range(3):
                told = plain_whole(R, parts)
                self.assertEqual(whole_kind(R, part_kinds(R, parts, depth), depth), plain_kind(told, (), depth))
        self.assertEqual(whole_kind(R, (PLAIN,), 1), plain_kind(Structure(2, ((),), ()), (), 1))

    def test_all_small_parts(self):
        every = [one for size in range(3) for one in structures_of(size, (1, 0))]
        for shape in (P, S, R):
            for parts in product(every, repeat=2):
                self.check(shape, parts, 2)

    def test_in_the_place_of_one_another(self):
        chooser = Chooser(203)
        for shape in (P, S, R, DEEP):
            depth = 1 - shape.extra
            for _ in range(20):
                parts = stocks(chooser, (1, 0), 1 + chooser.number(3), 3)
                larger = tuple(doubled(part) for part in parts)
                kinds = part_kinds(shape, parts, depth)
                self.assertEqual(kinds, part_kinds(shape, larger, depth))
                self.assertEqual(same_whole_answer(shape, parts, larger, depth), ("alike",))
                told = small_whole(shape, larger)
                if told is not None:
                    self.assertEqual(whole_kind(shape, kinds, depth), plain_kind(told, (), depth))

    def test_copies(self):
        # Of a sum the kind stays from as many copies on as the depth is.
        chooser = Chooser(204)
        for signature in ((1, 0), (1, 1), (0, 1)):
            shape = sum_shape(signature)
            for depth in range(3):
                part = chooser.structure(chooser.number(3), signature)
                kinds = part_kinds(shape, (part,), depth)
                told = [whole_kind(shape, kinds * times, depth) for times in range(4)]
                self.assertEqual(told[depth:], [told[depth]] * (4 - depth))

    def test_limits(self):
        four = Structure(3, ((0, 1),), ())
        members = [len(kind(four, (), 2)[1]), len(MARKED[1])]
        self.assertEqual(members, [3, 2])
        self.assertEqual(whole_kind(S, (MARKED,) * 3, 1), MARKED)
        large = kind(Chooser(209).structure(16, (0, 1)), (), 2)
        many = len(large[1])
        shape = sum_shape((0, 1))
        self.assertGreater(many ** 4, 4096)
        refuses(self, TooMany, 4096, whole_kind, shape, (large, large), 2)
        self.assertTrue(many ** 2 <= 4096 and whole_kind(shape, (large,), 2)[1])
        # Just as many as can be: 16 members, 16 ** 3 rows.
        kinds = part_kinds(shape, (Chooser(210).structure(15, (0, 1)),), 3)
        self.assertEqual(len(kinds[0][1]), 16)
        self.assertEqual(whole_kind(shape, kinds, 3), kinds[0])
        refuses(self, TooMany, 4096, whole_kind, shape, kinds + (kind(Structure(1, (), ((),)), (), 3),), 3)
        refuses(self, TooMany, 4096, part_kinds, shape, (Structure(16, (), ((),)),), 3)
        refuses(self, TooMany, 4096, part_kinds, DEEP, (Structure(16, ((),), ()),), 2)
        self.assertEqual(len(part_kinds(DEEP, (Structure(60, ((),), ()),) * 6, 1)), 6)
        self.assertEqual(len(part_kinds(DEEP, (Structure(15, ((),), ()),), 2)), 1)


class Alike(unittest.TestCase):
    def test_answers(self):
        chooser = Chooser(205)
        seen = {}
        for shape in [*known_shapes(), *some_shapes(chooser, 150)]:
            for _ in range(2):
                depth = chooser.number(4 - shape.extra)
                one, other = [stocks(chooser, shape.signature, chooser.number(4), 2) for _ in range(2)]
                wholes = [small_whole(shape, parts) for parts in (one, other)]
                if None in wholes:
                    continue
                told = same_whole_answer(shape, one, other, depth)
                seen[told[0]] = seen.get(told[0], 0) + 1
                self.assertTrue(is_plain_answer(shape, wholes, depth, told))
                self.assertIs(is_same_whole_answer(shape, one, other, depth, told), True)
                self.assertIs(is_same_whole_answer(shape, one, other, depth, ("alike",)), told == ("alike",))
                if told[0] == "formula":
                    self.assertIs(holds_in(shape, one, told[1]), True)
                    self.assertIs(holds_in(shape, other, told[1]), False)
                    self.assertIs(is_same_whole_answer(shape, other, one, depth, ("formula", ("not", told[1]))), True)
                    self.assertIs(is_same_whole_answer(shape, other, one, depth, told), False)
        self.assertGreater(min(seen.values()), 50)

    def test_small_wholes(self):
        # With at most three elements no formula is too long.
        chooser = Chooser(206)
        shape = Shape((2, 2), ((("none", 0),), product_shape((2, 2)).domain[1]), product_shape((2, 2)).marks, product_shape((2, 2)).links)
        for _ in range(150):
            one, other = [(chooser.structure(chooser.number(4), (2, 2)),) for _ in range(2)]
            told = same_whole_answer(shape, one, other, 3)
            self.assertTrue(is_plain_answer(shape, [one[0], other[0]], 3, told))
            turned = (renamed(one[0], chooser.order(one[0].size)),)
            self.assertEqual(same_whole_answer(shape, one, turned, 3), ("alike",))

    def test_large_wholes(self):
        # More things than a structure can have elements: 61 to 63 for the depth 2, 4,095 for the depth 1.
        plain = sum_shape((0, 0))
        for many in (61, 63):
            parts = (Structure(60, (), ()), Structure(many - 60, (), ()))
            self.assertEqual(same_whole_answer(plain, parts, (Structure(2, (), ()),), 2), ("alike",))
            found = same_whole_answer(plain, parts, (Structure(1, (), ()),), 2)
            self.assertIs(is_same_whole_answer(plain, parts, (Structure(1, (), ()),), 2, found), True)
        refuses(self, TooMany, 4096, same_whole_answer, plain, (Structure(60, (), ()), Structure(4, (), ())), (), 2)
        refuses(self, TooMany, 4096, same_whole_answer, plain, (), (Structure(60, (), ()), Structure(4, (), ())), 2)
        links = product_shape((1, 1))
        chooser = Chooser(207)
        parts = (chooser.structure(45, (1, 1)), chooser.structure(45, (1, 1)), chooser.structure(2, (1, 1)))
        told = same_whole_answer(links, parts, parts[:1], 1)
        self.assertIs(is_same_whole_answer(links, parts, parts[:1], 1, told), True)
        self.assertEqual(same_whole_answer(links, parts, (parts[1], parts[0], parts[2]), 1), ("alike",))
        most = some_shape((0, 0))
        edge = (Structure(15, (), ()), Structure(15, (), ()), Structure(14, (), ()))
        self.assertEqual(same_whole_answer(most, edge, (), 1), ("alike",))
        over = (Structure(15, (), ()),) * 3
        self.assertEqual(same_whole_answer(most, over, over, 0), ("alike",))
        refuses(self, TooMany, 4096, same_whole_answer, most, over, (), 1)
        refuses(self, TooMany, 4096, is_same_whole_answer, most, (), over, 1, ("alike",))
        # 15 things for the depth 3, and one more.
        edge = sum_shape((0, 1))
        chains = [Structure(many, (), (tuple((a, b) for a in range(many) for b in range(many) if a < b),)) for many in (14, 15, 16)]
        self.assertEqual(same_whole_answer(edge, (chains[0],), (chains[1],), 3), ("alike",))
        refuses(self, TooMany, 4096, same_whole_answer, edge, (chains[0],), (chains[2],), 3)

    def test_rows_limit(self):
        most = some_shape((0, 0))
        wide = (Structure(60, (), ()),) * 3
        for depth in range(4):
            refuses(self, TooMany, 20000, same_whole_answer, most, wide, (), depth)
            refuses(self, TooMany, 20000, same_whole_answer, most, (), wide, depth)
            refuses(self, TooMany, 20000, is_same_whole_answer, most, (), wide, depth, None)
        # It comes ahead of the limit of things.
        over = (Structure(15, (), ()),) * 3
        refuses(self, TooMany, 20000, same_whole_answer, most, over, wide, 1)
        refuses(self, TooMany, 20000, same_whole_answer, sum_shape((0, 0)), wide, over, 1)

    def test_judged(self):
        chooser = Chooser(208)
        seen = {True: 0, False: 0}
        cases = [(S, (POINT,) * 2, (POINT,), 1), (S, (POINT,) * 2, (POINT,), 2), (P, (TWO, TWO), (TWO,), 1), (DEEP, (TWO,), (BARE,), 2)]
        for shape in some_shapes(chooser, 20):
            parts = [stocks(chooser, shape.signature, chooser.number(3), 2) for _ in range(2)]
            if None not in [small_whole(shape, one) for one in parts]:
                cases.append((shape, *parts, chooser.number(4 - shape.extra)))
        for shape, one, other, depth in cases:
            wholes = [small_whole(shape, parts) for parts in (one, other)]
            near = [("formula", told) for told in NO_FORMULAS] + [("formula", UNLIKE), ("formula", ("not", UNLIKE)), ("formula", ("true",))]
            near += [("formula", (word, atom)) for word in ("some", "all") for atom in atoms_about(shape.whole_signature, 1)]
            near += [("formula",), ("formula", UNLIKE, ()), ("alike", ()), ["alike"], "alike", ("Formula", UNLIKE), ("book", ())]
            near += bent(same_whole_answer(shape, one, other, depth))
            near += [("formula", chooser.formula(shape.whole_signature, 0, chooser.number(4), 6)) for _ in range(10)]
            for value in [*WRONG, *near]:
                wanted = is_plain_answer(shape, wholes, depth, value)
                seen[wanted] += 1
                self.assertIs(is_same_whole_answer(shape, one, other, depth, value), wanted)
        self.assertGreater(seen[True], 30)


class Refusals(unittest.TestCase):
    def test_refusals(self):
        shapes, depths = (0, InvalidShape, NO_SHAPES), [*NO_NUMBERS, 4]
        refuses_each(self, part_kinds, (S, (POINT, BARE), 1), [shapes, (1, InvalidParts, NO_PARTS), (2, InvalidNumber, depths)])
        wrong = [shapes, (1, InvalidParts, NO_PARTS), (2, InvalidParts, NO_PARTS), (3, InvalidNumber, depths)]
        refuses_each(self, same_whole_answer, (S, (POINT, BARE), (TWO,), 1), wrong)
        refuses_each(self, is_same_whole_answer, (S, (POINT, BARE), (TWO,), 1, ("alike",)), wrong)

    def test_kinds(self):
        wrong = [*[value for value in WRONG if value != ()], [MARKED], MARKED, (MARKED,) * 4, (MARKED, None), (kind(POINT, (), 0),),
                 (kind(POINT, (), 2),), (kind(POINT, (0,), 1),), (kind(Structure(1, (), ()), (), 1),), (MARKED, kind(TWO, (), 2))]
        wrong += [(value,) for value in bent(MARKED) if not is_kind((1, 0), 0, 1, value)]
        for value in wrong:
            refuses(self, InvalidKind, None, whole_kind, S, value, 1)
        for depth in [*NO_NUMBERS, 4]:
            for kinds in ((MARKED,), None, ()):
                # The depth is looked at ahead of the kinds.
                refuses(self, InvalidNumber, depth, whole_kind, S, kinds, depth)
        for shape in NO_SHAPES:
            refuses(self, InvalidShape, None, whole_kind, shape, None, None)

    def test_depth_and_kinds(self):
        for depth in range(4):
            for told in range(4):
                kinds = (kind(POINT, (), told),)
                if told == depth:
                    self.assertEqual(whole_kind(P, kinds, depth), kind(POINT, (), depth))
                else:
                    refuses(self, InvalidKind, None, whole_kind, P, kinds, depth)
                if told == depth + 1:
                    self.assertEqual(whole_kind(DEEP, kinds, depth), kind(POINT, (), depth))
                else:
                    refuses(self, InvalidKind, None, whole_kind, DEEP, kinds, depth)

    def test_deep(self):
        self.assertEqual(DEEP.extra, 1)
        refuses(self, Refused, ("deep",), part_kinds, DEEP, (POINT,), 3)
        # There are no kinds of the depth 4, so that only no kinds are right ones.
        refuses(self, Refused, ("deep",), whole_kind, DEEP, (), 3)
        refuses(self, InvalidKind, None, whole_kind, DEEP, (kind(POINT, (), 3),), 3)
        refuses(self, InvalidKind, None, whole_kind, DEEP, [], 3)
        for one, other in (((POINT,), (BARE,)), ((), ())):
            refuses(self, Refused, ("deep",), same_whole_answer, DEEP, one, other, 3)
            refuses(self, Refused, ("deep",), is_same_whole_answer, DEEP, one, other, 3, None)
        # Ahead of all limits.
        large = Structure(60, ((),), ())
        refuses(self, Refused, ("deep",), part_kinds, DEEP, (large,), 3)
        refuses(self, Refused, ("deep",), same_whole_answer, DEEP, (large,) * 6, (), 3)
        refuses(self, InvalidParts, None, same_whole_answer, DEEP, (POINT,), None, 3)


if __name__ == "__main__":
    unittest.main()
