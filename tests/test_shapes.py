"""Stage 12: shapes."""

import unittest
from itertools import product

from tests.helpers import NO_NUMBERS, NO_SHAPES, NO_SIGNATURES, WRONG, Chooser, plain_whole, plainly_rules, refuses
from tests.helpers import refuses_each, rows_with, some_rules, some_shapes, structures_of
from wholebyparts.errors import InvalidNumber, InvalidShape
from wholebyparts.part.structures import Structure
from wholebyparts.read.readers import Reader
from wholebyparts.shape.rules import all_rule, first_rule, opposite_rule, some_rule
from wholebyparts.shape.shapes import Shape, ahead_shape, first_shape, opposite_link, product_shape, shape_fault
from wholebyparts.shape.shapes import some_shape, sum_shape

SIGNATURES = list(product(range(3), repeat=2))
EVERY = ((), Reader(1, ((0,),), (0,)))
ONE_PLACE, TWO_PLACES = some_rule((1, 1), 1, ("mark", 0, 0)), some_rule((1, 1), 2, ("same", 0, 1))
DEEP = all_rule((1, 1), 1, ("some", ("mark", 0, 1)))


def mark_rules(call, signature):
    return tuple(call(signature, 1, ("mark", mark, 0)) for mark in range(signature[0]))


def link_rules(call, signature):
    return tuple(call(signature, 2, ("link", link, 0, 1)) for link in range(signature[1]))


class Data(unittest.TestCase):
    def test_properties(self):
        shape = Shape((1, 1), EVERY, (ONE_PLACE, DEEP), (TWO_PLACES,))
        self.assertEqual((shape.signature, shape.whole_signature, shape.extra), ((1, 1), (2, 1), 1))
        self.assertTrue(shape.domain == EVERY and shape.marks == (ONE_PLACE, DEEP) and shape.links == (TWO_PLACES,))
        self.assertEqual(str(shape), "shape with 2 marks and 1 links")
        self.assertEqual(str(some_shape((0, 0))), "shape with 0 marks and 0 links")

    def test_extra(self):
        self.assertEqual(Shape((1, 1), EVERY, (), ()).extra, 0)
        self.assertEqual(Shape((1, 1), EVERY, (ONE_PLACE,), ()).extra, 0)
        self.assertEqual(Shape((1, 1), DEEP, (ONE_PLACE,), ()).extra, 1)
        self.assertEqual(Shape((1, 1), EVERY, (ONE_PLACE, DEEP), ()).extra, 1)
        deep = first_rule((1, 1), 2, ("true",), ("not", ("all", ("link", 0, 2, 0))))
        self.assertEqual(Shape((1, 1), EVERY, (), (TWO_PLACES, deep)).extra, 1)
        for shape in some_shapes(Chooser(121), 60, 0):
            self.assertEqual(shape.extra, 0)

    def test_equality(self):
        good = ((1, 1), EVERY, (ONE_PLACE,), (TWO_PLACES,))
        self.assertTrue(Shape(*good) == Shape(*good))
        self.assertFalse(Shape(*good) != Shape(*good))
        others = [((2, 1), *good[1:]), (good[0], ONE_PLACE, *good[2:]), (*good[:2], (DEEP,), good[3]), (*good[:2], (), good[3]),
                  (*good[:3], (TWO_PLACES,) * 2)]
        for other in [*[Shape(*one) for one in others], *NO_SHAPES, good]:
            self.assertIs(Shape(*good) == other, False)
            self.assertIs(Shape(*good) != other, True)

    def test_faults(self):
        good = ((1, 1), EVERY, (ONE_PLACE,), (TWO_PLACES,))
        self.assertIsNone(shape_fault(*good))
        no_rules = [*WRONG, (), (1,), ONE_PLACE[:1], [*ONE_PLACE], all_rule((2, 1), 1, ("mark", 1, 0)), (*EVERY, ())]
        for wrong in NO_SIGNATURES:
            self.assertEqual(shape_fault(wrong, None, None, None), ("signature",))
            refuses(self, InvalidShape, None, Shape, wrong, *good[1:])
        for wrong in [*no_rules, TWO_PLACES]:
            self.assertEqual(shape_fault((1, 1), wrong, None, None), ("domain",))
            refuses(self, InvalidShape, None, Shape, (1, 1), wrong, *good[2:])
        for wrong in [*[x for x in WRONG if not isinstance(x, tuple)], [ONE_PLACE], (ONE_PLACE,) * 3, (1, 2, 3)]:
            self.assertEqual(shape_fault((1, 1), EVERY, wrong, None), ("marks",))
            refuses(self, InvalidShape, None, Shape, (1, 1), EVERY, wrong, ())
            self.assertEqual(shape_fault((1, 1), EVERY, (None,), wrong), ("links",))
            refuses(self, InvalidShape, None, Shape, (1, 1), EVERY, (), wrong)
        for wrong in [*no_rules, TWO_PLACES]:
            self.assertEqual(shape_fault((1, 1), EVERY, (ONE_PLACE, wrong), (None,)), ("mark", 1))
            self.assertEqual(shape_fault((1, 1), EVERY, (wrong, None), ()), ("mark", 0))
            refuses(self, InvalidShape, None, Shape, (1, 1), EVERY, (wrong,), ())
        for wrong in [*no_rules, ((("same", 0, 2),), TWO_PLACES[1])]:
            self.assertEqual(shape_fault((1, 1), EVERY, (ONE_PLACE,), (TWO_PLACES, wrong)), ("link", 1))
            self.assertEqual(shape_fault((1, 1), EVERY, (), (wrong, None)), ("link", 0))
            refuses(self, InvalidShape, None, Shape, (1, 1), EVERY, (), (wrong,))
        # A rule without variables in its tests is one for each number of places.
        self.assertIsNone(shape_fault((0, 0), EVERY, (EVERY, EVERY), (EVERY, EVERY)))


class Named(unittest.TestCase):
    def test_product_and_sum(self):
        for signature in SIGNATURES:
            domain = ((("none", 0),), Reader(2, ((0, 1), (1, 1)), (0,)))
            wanted = Shape(signature, domain, mark_rules(all_rule, signature), link_rules(all_rule, signature))
            self.assertTrue(product_shape(signature) == wanted)
            domain = ((("none", 0),), Reader(2, ((1, 0), (2, 1), (2, 2)), (1,)))
            wanted = Shape(signature, domain, mark_rules(some_rule, signature), link_rules(some_rule, signature))
            self.assertTrue(sum_shape(signature) == wanted)

    def test_some(self):
        for signature in SIGNATURES:
            links = tuple(all_rule(signature, 2, ("or", ("and", ("none", 0), ("none", 1)), ("link", link, 0, 1)))
                          for link in range(signature[1]))
            self.assertTrue(some_shape(signature) == Shape(signature, EVERY, mark_rules(some_rule, signature), links))

    def test_in_sequence(self):
        for signature in SIGNATURES:
            for link in range(signature[1]):
                told = ("link", link, 0, 1)
                ahead = first_rule(signature, 2, ("not", ("and", ("none", 0), ("none", 1))), ("or", ("none", 1), told))
                first = first_rule(signature, 2, ("not", ("same", 0, 1)), told)
                for call, base, rule in ((ahead_shape, sum_shape, ahead), (first_shape, product_shape, first)):
                    plain = base(signature)
                    links = tuple(rule if index == link else one for index, one in enumerate(plain.links))
                    self.assertTrue(call(signature, link) == Shape(signature, plain.domain, plain.marks, links))

    def test_wholes(self):
        # What the shapes mean, beside their rules.
        for first, second in product([one for size in (0, 1, 2) for one in structures_of(size, (0, 1))][::3], repeat=2):
            ahead = plain_whole(ahead_shape((0, 1), 0), (first, second))
            moved = [(a + second.size, b + second.size) for a, b in first.links[0]]
            # Elements of the first part are (a, none): they come behind those of the second one.
            over = [(a + second.size, b) for a in range(first.size) for b in range(second.size)]
            self.assertEqual(ahead.links[0], tuple(sorted([*second.links[0], *moved, *over])))
            lexical = plain_whole(first_shape((0, 1), 0), (first, second))
            pairs = list(product(range(first.size), range(second.size)))
            wanted = [(one, other) for one, (a, b) in enumerate(pairs) for other, (c, d) in enumerate(pairs)
                      if ((a, c) in first.links[0] if a != c else b != d and (b, d) in second.links[0])]
            self.assertEqual(lexical.links[0], tuple(wanted))

    def test_orders(self):
        def is_order(structure):
            pairs = structure.links[0]
            return not [a for a, b in pairs if a == b] and all((a, d) in pairs for a, b in pairs for c, d in pairs if b == c)
        orders = [one for size in (0, 1, 2) for one in structures_of(size, (0, 1)) if is_order(one)]
        orders.append(Structure(3, (), (((0, 1), (0, 2)),)))
        for parts in product(orders, repeat=2):
            for call in (ahead_shape, first_shape):
                self.assertTrue(is_order(plain_whole(call((0, 1), 0), parts)))

    def test_opposite(self):
        chooser = Chooser(122)
        for shape in some_shapes(chooser, 40):
            for link in range(len(shape.links)):
                told = opposite_link(shape, link)
                wanted = opposite_rule(shape.signature, 2, shape.links[link])
                self.assertTrue(told.links[link] == wanted)
                rest = [one for index, one in enumerate(told.links) if index != link]
                self.assertTrue(rest == [one for index, one in enumerate(shape.links) if index != link])
                self.assertTrue((told.signature, told.domain, told.marks) == (shape.signature, shape.domain, shape.marks))
                self.assertTrue(plainly_rules(wanted, (), ()) != plainly_rules(shape.links[link], (), ()))
        link = some_rules(chooser, (1, 1), 2, 1)[0]
        shape = opposite_link(Shape((1, 1), EVERY, (), (link,)), 0)
        part = Structure(2, ((0,),), (((0, 1), (1, 1)),))
        for row in rows_with(part, 2):
            self.assertNotEqual(plainly_rules(link, (part,), (row,)), plainly_rules(shape.links[0], (part,), (row,)))

    def test_refusals(self):
        for call in (product_shape, sum_shape, some_shape):
            refuses_each(self, call, ((1, 1),), [(0, InvalidNumber, NO_SIGNATURES)])
        for call in (ahead_shape, first_shape):
            refuses_each(self, call, ((1, 2), 1), [(0, InvalidNumber, NO_SIGNATURES), (1, InvalidNumber, [*NO_NUMBERS, 2])])
            refuses(self, InvalidNumber, 0, call, (2, 0), 0)
        two = Shape((1, 1), EVERY, (), (TWO_PLACES,) * 2)
        refuses_each(self, opposite_link, (two, 1), [(0, InvalidShape, NO_SHAPES), (1, InvalidNumber, [*NO_NUMBERS, 2])])


if __name__ == "__main__":
    unittest.main()
