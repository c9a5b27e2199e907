"""Stage 13: wholes."""

import unittest
from itertools import product

from tests.helpers import NO_FORMULAS, NO_NUMBERS, NO_SHAPES, WRONG, Chooser, accepts_all, plain_things, plain_whole
from tests.helpers import plainly_holds, plainly_rules, refuses, refuses_each, some_shapes
from wholebyparts.errors import InvalidFormula, InvalidNumber, InvalidParts, InvalidRow, InvalidShape, TooMany
from wholebyparts.part.structures import Structure, is_map, renamed
from wholebyparts.read.readers import Reader
from wholebyparts.say.formulas import depth_of
from wholebyparts.say.meaning import holds
from wholebyparts.shape.rules import all_rule
from wholebyparts.shape.shapes import Shape, ahead_shape, opposite_link, product_shape, some_shape, sum_shape
from wholebyparts.shape.wholes import holds_in, is_thing, link_holds, mark_holds, things, whole

A, B = Structure(2, ((0,),), (((0, 1),),)), Structure(1, ((),), ((),))
P, S, R = product_shape((1, 1)), sum_shape((1, 1)), some_shape((1, 1))
PLAIN = Structure(1, (), ())
TWICE = ("some", ("some", ("not", ("same", 0, 1))))


def bare(size):
    return Structure(size, (), ())


def some_wholes(seed, many, most=3, parts=4):
    """Shapes with parts."""
    chooser = Chooser(seed)
    found = []
    for shape in some_shapes(chooser, many):
        told = tuple(chooser.structure(chooser.number(most + 1), shape.signature) for _ in range(chooser.number(parts)))
        found.append((shape, told))
    return found


class Elements(unittest.TestCase):
    def test_things(self):
        for shape, parts in some_wholes(131, 150):
            wanted = plain_things(shape, parts)
            self.assertEqual(things(shape, parts), tuple(wanted))
            for row in product(*[range(-1, part.size) for part in parts]):
                self.assertIs(is_thing(shape, parts, row), row in wanted)

    def test_no_parts(self):
        self.assertEqual((things(P, ()), things(S, ()), things(R, ())), (((),), (), ((),)))
        self.assertTrue(whole(P, ()) == Structure(1, ((0,),), (((0, 0),),)))
        self.assertTrue(whole(S, ()) == Structure(0, ((),), ((),)))
        self.assertTrue(whole(R, ()) == Structure(1, ((),), (((0, 0),),)))
        self.assertIs(is_thing(P, (), ()), True)
        self.assertIs(is_thing(S, (), ()), False)

    def test_sizes(self):
        for sizes in [(), (0,), (1,), (5,), (0, 0), (2, 3), (0, 4), (1, 1, 1), (2, 0, 2, 1), (1, 2, 1, 2, 1, 1)]:
            parts = tuple(bare(size) for size in sizes)
            numbers = [1, 1]
            for size in sizes:
                numbers = [numbers[0] * size, numbers[1] * (size + 1)]
            told = [len(things(call((0, 0)), parts)) for call in (product_shape, sum_shape, some_shape)]
            self.assertEqual(told, [numbers[0], sum(sizes), numbers[1]])

    def test_rows_limit(self):
        every = some_shape((0, 0))
        for sizes in ((60,) * 3, (60, 60, 5), (27, 26, 26), (4,) * 5 + (6,), (59,) * 6):
            parts = tuple(bare(size) for size in sizes)
            for call in (things, whole):
                refuses(self, TooMany, 20000, call, every, parts)
            refuses(self, TooMany, 20000, holds_in, every, parts, ("true",))
        self.assertEqual(len(things(every, (bare(26),) * 3)), 19683)
        self.assertEqual(len(things(every, (bare(4),) * 4 + (bare(31),))), 20000)
        refuses(self, TooMany, 20000, things, every, (bare(26), bare(26), bare(27)))
        refuses(self, TooMany, 20000, whole, every, (bare(26), bare(26), bare(27)))
        refuses(self, TooMany, 20000, holds_in, every, (bare(26), bare(26), bare(27)), ("true",))
        self.assertIs(holds_in(every, (bare(4),) * 4 + (bare(31),), ("true",)), True)
        # Nothing of it hinders single rows.
        self.assertIs(is_thing(every, (bare(60),) * 6, (59, -1) * 3), True)
        self.assertIs(mark_holds(P, (Structure(60, ((59,),), ((),)),) * 6, 0, (59,) * 6), True)
        self.assertIs(link_holds(P, (Structure(60, ((59,),), (((0, 1),),)),) * 6, 0, (0,) * 6, (1,) * 6), True)

    def test_judged(self):
        for shape in (P, S, R):
            accepts_all(self, is_thing, shape, (A, B))
            for value in ((0,), (0, 0, 0), (2, 0), (0, 1), (-2, 0), (True, 0), (0, False), (0, None), [0, 0], (False, 0), (1, True)):
                self.assertIs(is_thing(shape, (A, B), value), False)
        self.assertIs(is_thing(P, (A, B), (0, 0)), True)


class Together(unittest.TestCase):
    def test_wholes(self):
        for shape, parts in some_wholes(132, 150, 2):
            told = whole(shape, parts)
            self.assertTrue(told == plain_whole(shape, parts))
            self.assertEqual(told.signature, shape.whole_signature)

    def test_limit(self):
        self.assertEqual(whole(sum_shape((0, 0)), (bare(30), bare(30))).size, 60)
        refuses(self, TooMany, 60, whole, sum_shape((0, 0)), (bare(30), bare(31)))
        self.assertEqual(whole(product_shape((0, 0)), (bare(6), bare(10))).size, 60)
        refuses(self, TooMany, 60, whole, product_shape((0, 0)), (bare(31), bare(2)))
        large = Structure(60, (tuple(range(0, 60, 2)),), (tuple((a, b) for a in range(60) for b in range(60) if a < b),))
        self.assertTrue(whole(P, (large,)) == large)
        self.assertTrue(whole(S, (large,)) == large)
        self.assertTrue(whole(S, (Structure(0, ((),), ((),)),) * 6) == Structure(0, ((),), ((),)))

    def test_six_parts(self):
        parts = (A, B, A, Structure(0, ((),), ((),)), A, B)
        self.assertTrue(whole(S, parts) == plain_whole(S, parts))
        self.assertTrue(whole(ahead_shape((1, 1), 0), parts) == plain_whole(ahead_shape((1, 1), 0), parts))

    def test_renamed_parts(self):
        for shape, parts in some_wholes(133, 40, 2):
            for index, part in enumerate(parts):
                names = tuple(range(part.size))[::-1]
                other = parts[:index] + (renamed(part, names),) + parts[index + 1:]
                first, second = things(shape, parts), things(shape, other)
                led = [row[:index] + (row[index] if row[index] < 0 else names[row[index]],) + row[index + 1:] for row in first]
                self.assertEqual(tuple(sorted(led)), second)
                if len(first) <= 60:
                    order = tuple(second.index(row) for row in led)
                    self.assertIs(is_map(whole(shape, parts), whole(shape, other), order), True)

    def test_marks_and_links(self):
        for shape, parts in some_wholes(134, 60, 2, 3):
            rows = plain_things(shape, parts)[:6]
            for thing in rows:
                for mark, rule in enumerate(shape.marks):
                    wanted = plainly_rules(rule, parts, [(member,) for member in thing])
                    self.assertIs(mark_holds(shape, parts, mark, thing), wanted)
                for (link, rule), goal in product(enumerate(shape.links), rows):
                    self.assertIs(link_holds(shape, parts, link, thing, goal), plainly_rules(rule, parts, list(zip(thing, goal))))


class Asked(unittest.TestCase):
    def test_formulas(self):
        chooser = Chooser(135)
        for shape, parts in some_wholes(136, 150, 2, 4):
            told = plain_whole(shape, parts)
            for _ in range(4):
                formula = chooser.formula(shape.whole_signature, 0, chooser.number(4), 1 + chooser.number(14))
                if told.size ** depth_of(shape.whole_signature, 0, formula) > 4096:
                    refuses(self, TooMany, 4096, holds_in, shape, parts, formula)
                else:
                    self.assertIs(holds_in(shape, parts, formula), plainly_holds(told, formula, ()))

    def test_both_ways_of_a_link(self):
        seen = set()
        for shape, parts in some_wholes(137, 120, 2, 4):
            told = plain_whole(shape, parts)
            for link, (outer, inner) in product(range(len(shape.links)), (("some", "all"), ("all", "some"))):
                for x, y in ((0, 1), (1, 0), (0, 0), (1, 1)):
                    atom = ("link", link, x, y)
                    within = ("or", atom, ("same", 0, 1)) if inner == "all" else ("and", atom, ("not", ("same", 0, 1)))
                    formula = (outer, (inner, within))
                    if told.size <= 64:
                        found = holds_in(shape, parts, formula)
                        self.assertIs(found, plainly_holds(told, formula, ()))
                        seen.add((outer, x, y, found))
        self.assertEqual(len(seen), 16)

    def test_large_wholes(self):
        # 4,096 elements, of which just the last one is marked by both parts.
        last = Structure(60, ((59,),), ((),))
        parts = (last, last)
        self.assertEqual(len(things(P, parts)), 3600)
        self.assertIs(holds_in(P, parts, ("some", ("mark", 0, 0))), True)
        self.assertIs(holds_in(P, parts, ("some", ("link", 0, 0, 0))), False)
        refuses(self, TooMany, 4096, holds_in, P, parts, TWICE)
        refuses(self, TooMany, 4096, holds_in, P, (last, last, Structure(3, ((),), ((),))), ("some", ("mark", 0, 0)))
        self.assertIs(holds_in(P, (last, last, Structure(3, ((),), ((),))), ("not", ("true",))), False)
        eight = Structure(8, (tuple(range(8)),), (tuple((a, a) for a in range(8)),))
        self.assertIs(holds_in(P, (eight, eight), ("all", ("some", ("and", ("link", 0, 0, 1), ("same", 0, 1))))), True)
        self.assertIs(holds_in(P, (eight, eight), ("all", ("all", ("or", ("same", 0, 1), ("not", ("link", 0, 0, 1)))))), True)
        refuses(self, TooMany, 4096, holds_in, S, (eight,) * 2 + (B,), ("all", ("all", ("all", ("true",)))))
        self.assertIs(holds_in(S, (eight,) * 2, ("all", ("all", ("all", ("true",))))), True)
        refuses(self, TooMany, 4096, holds_in, some_shape((0, 0)), (bare(4), bare(12)), TWICE)
        self.assertIs(holds_in(some_shape((0, 0)), (bare(3), bare(15)), TWICE), True)

    def test_by_kinds(self):
        # A part of one kind of the depth of a formula and of the extra leaves what holds.
        test = ("some", ("and", ("mark", 0, 1), ("not", ("same", 0, 1))))
        deep = Shape((1, 0), product_shape((1, 0)).domain, (all_rule((1, 0), 1, test),), ())
        one, other = Structure(3, ((0, 1, 2),), ()), Structure(4, ((0, 1, 2, 3),), ())
        for formula in (("some", ("mark", 0, 0)), ("some", ("some", ("not", ("same", 0, 1))))):
            self.assertIs(holds_in(deep, (one, one), formula), holds_in(deep, (other, one), formula))
        self.assertIs(holds(one, 0, ("some", ("mark", 0, 0)), ()), True)

    def test_opposite_link(self):
        parts = (A, A)
        told = holds_in(opposite_link(P, 0), parts, ("all", ("link", 0, 0, 0)))
        self.assertIs(told, True)
        self.assertIs(holds_in(opposite_link(P, 0), (), ("some", ("link", 0, 0, 0))), False)

    def test_things_of_nones(self):
        # An element of a whole is not none, also if its members are.
        self.assertIs(holds_in(R, (A,), ("some", ("none", 0))), False)
        self.assertIs(holds_in(R, (A,), ("all", ("not", ("none", 0)))), True)


class Refusals(unittest.TestCase):
    PARTS = [*WRONG, [A, B], (A,) * 7, (A, None), (A, PLAIN), (A, (A,)), A, (Structure(1, ((), ()), ((),)),)]

    def wrong(self, *more):
        parts = [value for value in self.PARTS if value != ()]
        return [(0, InvalidShape, NO_SHAPES), (1, InvalidParts, parts), *more]

    def test_refusals(self):
        refuses_each(self, things, (P, (A, B)), self.wrong())
        refuses_each(self, whole, (P, (A, B)), self.wrong())
        refuses_each(self, is_thing, (P, (A, B), None), self.wrong())
        numbers = (2, InvalidNumber, [*NO_NUMBERS, 1])
        rows = [*WRONG, (), (0,), (0, 0, 0), (2, 0), (-1, 0), (0, -1), (-1, -1), (True, 0), (0, False), [0, 0], (0, 1)]
        refuses_each(self, mark_holds, (P, (A, B), 0, (0, 0)), self.wrong(numbers, (3, InvalidRow, rows)))
        refuses_each(self, link_holds, (P, (A, B), 0, (0, 0), (1, 0)),
                     self.wrong(numbers, (3, InvalidRow, rows), (4, InvalidRow, rows)))
        formulas = [*NO_FORMULAS, ("none", 0), ("some", ("mark", 1, 0)), ("some", ("link", 0, 0, 1))]
        refuses_each(self, holds_in, (P, (A, B), ("some", ("mark", 0, 0))), self.wrong((2, InvalidFormula, formulas)))
        refuses(self, InvalidFormula, None, holds_in, some_shape((0, 0)), (bare(60),) * 6, ("none", 0))

    def test_whole_signature(self):
        shape = Shape((0, 0), ((), Reader(1, ((0,),), (0,))), (all_rule((0, 0), 1, ("none", 0)),) * 2, ())
        self.assertIs(holds_in(shape, (PLAIN,), ("some", ("mark", 1, 0))), True)
        refuses(self, InvalidFormula, None, holds_in, shape, (PLAIN,), ("some", ("link", 0, 0, 0)))
        refuses(self, InvalidNumber, 2, mark_holds, shape, (PLAIN,), 2, (0,))
        refuses(self, InvalidNumber, 0, link_holds, shape, (PLAIN,), 0, (0,), (0,))


if __name__ == "__main__":
    unittest.main()
