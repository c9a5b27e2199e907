"""Stage 1: structures, maps, and what is made of structures."""

import unittest
from itertools import permutations, product

from tests.helpers import BIG, NO_NUMBERS, NO_STRUCTURES, WRONG, Chooser, accepts_all, lots_of, refuses, refuses_each
from tests.helpers import structures_of
from wholebyparts.errors import InvalidNumber, InvalidOperation, InvalidStructure, TooMany
from wholebyparts.part import structures
from wholebyparts.part.structures import Structure, complemented, induced, is_map, map_between, renamed
from wholebyparts.part.structures import structure_fault, turned, without

WEB = Structure(3, ((0, 2), ()), (((0, 1), (1, 2), (2, 2)), ((2, 0),)))
SMALL = [one for size in range(3) for one in structures_of(size, (1, 1))]


class Data(unittest.TestCase):
    def test_constants(self):
        self.assertEqual((structures.MOST_SIZE, structures.MOST_RELATIONS, structures.MOST_TRIED), (60, 2, 8))

    def test_properties(self):
        self.assertEqual((WEB.size, WEB.signature, WEB.marks), (3, (2, 2), ((0, 2), ())))
        self.assertEqual(WEB.links, (((0, 1), (1, 2), (2, 2)), ((2, 0),)))
        self.assertEqual(str(WEB), "structure of 3 elements, 2 marks, 2 links")
        self.assertEqual(str(Structure(0, (), ())), "structure of 0 elements, 0 marks, 0 links")
        self.assertEqual(Structure(0, (), ((),)).signature, (0, 1))

    def test_equality(self):
        same = Structure(3, ((0, 2), ()), (((0, 1), (1, 2), (2, 2)), ((2, 0),)))
        self.assertTrue(WEB == same)
        self.assertFalse(WEB != same)
        others = (
            Structure(4, WEB.marks, WEB.links), Structure(3, ((0,), ()), WEB.links), Structure(3, WEB.marks, ((), ())),
            Structure(3, (), WEB.links), Structure(3, WEB.marks, WEB.links[:1]),
        )
        for other in (*others, *NO_STRUCTURES, (3, WEB.marks, WEB.links)):
            self.assertIs(WEB == other, False)
            self.assertIs(WEB != other, True)

    def test_faults(self):
        for size in (*NO_NUMBERS, 61, 60.5):
            self.assertEqual(structure_fault(size, None, None), ("size",), size)
        for value in (*WRONG, [], ((), (), ())):
            if value in ((), ((),)) or not isinstance(value, tuple) or len(value) > 2:
                self.assertEqual(structure_fault(3, value, None), ("marks",), value)
                self.assertEqual(structure_fault(3, (5,), value), ("links",), value)
        for mark in (*[x for x in WRONG if x != ()], (0, 0), (1, 0), (3,), (-1,), (True,), (0, True), [0]):
            self.assertEqual(structure_fault(3, ((0, 1, 2), mark), ((5,),)), ("mark", 1), mark)
            self.assertEqual(structure_fault(3, (mark, 7), ()), ("mark", 0), mark)
        pairs = (((0, 0), (0, 0)), ((1, 0), (0, 1)), ((0, 3),), ((-1, 0),), ((0, True),), ((0,),), ((0, 1, 2),), ([0, 1],))
        for link in (*[x for x in WRONG if x != ()], *pairs):
            self.assertEqual(structure_fault(3, (), (((0, 1), (1, 1)), link)), ("link", 1), link)
            self.assertEqual(structure_fault(3, (), (link, 7)), ("link", 0), link)

    def test_no_fault(self):
        whole = tuple(product(range(60), repeat=2))
        for values in ((60, (tuple(range(60)), ()), (whole, whole)), (0, (), ()), (0, ((), ()), ((), ())), (1, ((0,),), ())):
            self.assertIsNone(structure_fault(*values))
            self.assertEqual(Structure(*values).size, values[0])

    def test_what_is_no_structure(self):
        wrong = ((61, (), ()), (True, (), ()), (2, ((1, 0),), ()), (2, (), (((0, 2),),)), (2, [], ()), (2, (), 3 * ((),)))
        for values in (*wrong, (2, 3 * ((),), ()), (BIG, (), ())):
            self.assertIsNotNone(structure_fault(*values))
            refuses(self, InvalidStructure, None, Structure, *values)


class Maps(unittest.TestCase):
    def plainly_maps(self, one, other, led):
        def told(pairs):
            return {tuple(led[a] for a in pair) for pair in pairs}
        if one.signature != other.signature or one.size != other.size:
            return False
        marks = [{led[a] for a in mark} for mark in one.marks] == [set(mark) for mark in other.marks]
        return marks and [told(link) for link in one.links] == [set(link) for link in other.links]

    def test_all_small_ones(self):
        for one, other in product(SMALL, repeat=2):
            maps = [led for led in permutations(range(one.size)) if self.plainly_maps(one, other, led)]
            for led in permutations(range(one.size)):
                self.assertIs(is_map(one, other, led), led in maps)
            found = map_between(one, other)
            self.assertEqual(found, maps[0] if maps else None)

    def test_larger_ones(self):
        chooser = Chooser(1)
        for size in (3, 5, 8, 8):
            one = chooser.structure(size, (1, 2))
            names = chooser.order(size)
            other = renamed(one, names)
            self.assertTrue(is_map(one, other, names))
            self.assertTrue(is_map(one, other, map_between(one, other)))
            bent = complemented(other, 1)
            self.assertFalse(is_map(one, bent, names))
            self.assertIsNone(map_between(one, bent))
        big = chooser.structure(60, (2, 2))
        names = chooser.order(60)
        self.assertTrue(is_map(big, renamed(big, names), names))

    def test_two_unlike_ones_with_equal_numbers(self):
        one = Structure(6, (), (tuple(sorted([(0, 1), (1, 2), (2, 0), (3, 4), (4, 5), (5, 3)])),))
        other = Structure(6, (), (tuple(sorted([(0, 1), (1, 2), (2, 3), (3, 4), (4, 5), (5, 0)])),))
        self.assertIsNone(map_between(one, other))
        self.assertIsNone(map_between(Structure(8, ((7,), (7,)), ()), Structure(8, ((6,), (7,)), ())))

    def test_unlike_signatures_and_sizes(self):
        plain = Structure(2, (), ())
        for other in (Structure(2, ((),), ()), Structure(2, (), ((),)), Structure(3, (), ()), Structure(0, (), ())):
            self.assertIs(is_map(plain, other, (0, 1)), False)
            self.assertIsNone(map_between(plain, other))
        self.assertEqual(map_between(Structure(0, (), ()), Structure(0, (), ())), ())
        self.assertIsNone(map_between(Structure(0, (), ()), Structure(0, ((),), ())))
        self.assertIs(is_map(Structure(0, (), ()), Structure(0, ((),), ()), ()), False)
        self.assertIs(is_map(Structure(0, (), ()), Structure(0, (), ()), ()), True)

    def test_links_of_three_pairs(self):
        pairs = [pair for pair in product(range(4), repeat=2) if pair[0] != pair[1]]
        links = [Structure(4, (), (link,)) for link in lots_of(pairs) if len(link) == 3]
        for one in links[::12]:
            for other in links:
                maps = [led for led in permutations(range(4)) if self.plainly_maps(one, other, led)]
                self.assertEqual(map_between(one, other), maps[0] if maps else None)

    def test_judged_values(self):
        two = Structure(2, (), ())
        accepts_all(self, is_map, two, two)
        near = ((0, 1, 1), (0, 0), (0,), (0, True), (False, 1), [0, 1], (1, 2), (-1, 0), (0, BIG))
        accepts_all(self, is_map, two, two, values=near)
        self.assertTrue(is_map(two, two, (1, 0)))

    def test_refusals(self):
        refuses_each(self, is_map, (WEB, WEB, (0, 1, 2)), [
            (0, InvalidStructure, NO_STRUCTURES), (1, InvalidStructure, NO_STRUCTURES)])
        refuses_each(self, map_between, (WEB, WEB), [
            (0, InvalidStructure, NO_STRUCTURES), (1, InvalidStructure, NO_STRUCTURES)])

    def test_too_many(self):
        eight, nine, other = Structure(8, (), ()), Structure(9, (), ()), Structure(9, ((),), ())
        self.assertEqual(map_between(eight, eight), tuple(range(8)))
        for pair in ((eight, nine), (nine, eight), (nine, nine), (eight, other)):
            refuses(self, TooMany, 8, map_between, *pair)
        refuses(self, InvalidStructure, None, map_between, nine, None)
        self.assertTrue(is_map(nine, nine, (8, 7, 6, 5, 4, 3, 2, 1, 0)))


class Made(unittest.TestCase):
    def test_renamed(self):
        for one in SMALL:
            for names in permutations(range(one.size)):
                self.assertTrue(is_map(one, renamed(one, names), names))
        self.assertEqual(renamed(WEB, (2, 0, 1)), Structure(3, ((1, 2), ()), (((0, 1), (1, 1), (2, 0)), ((1, 2),))))

    def test_induced(self):
        for one in SMALL:
            for lot in lots_of(range(one.size)):
                found = induced(one, lot)
                self.assertEqual((found.size, found.signature), (len(lot), one.signature))
                for i, a in enumerate(lot):
                    self.assertEqual(i in found.marks[0], a in one.marks[0])
                    for j, b in enumerate(lot):
                        self.assertEqual((i, j) in found.links[0], (a, b) in one.links[0])
        self.assertEqual(induced(WEB, (1, 2)), Structure(2, ((1,), ()), (((0, 1), (1, 1)), ())))
        self.assertEqual(induced(WEB, ()), Structure(0, ((), ()), ((), ())))

    def test_without(self):
        self.assertEqual(without(WEB, 0), Structure(3, ((),), WEB.links))
        self.assertEqual(without(WEB, 1), Structure(3, ((0, 2),), WEB.links))
        self.assertEqual(without(without(WEB, 0), 0), Structure(3, (), WEB.links))

    def test_turned_and_complemented(self):
        self.assertEqual(turned(WEB, 0).links, (((1, 0), (2, 1), (2, 2)), ((2, 0),)))
        self.assertEqual(turned(WEB, 1).links, (WEB.links[0], ((0, 2),)))
        rest = ((0, 0), (0, 2), (1, 0), (1, 1), (2, 0), (2, 1))
        self.assertEqual(complemented(WEB, 0).links, (rest, ((2, 0),)))
        for one in [WEB, *SMALL]:
            self.assertEqual(turned(turned(one, 0), 0), one)
            self.assertEqual(complemented(complemented(one, 0), 0), one)
            self.assertEqual(turned(complemented(one, 0), 0), complemented(turned(one, 0), 0))
            self.assertEqual(turned(one, 0).marks, one.marks)
        self.assertEqual(len(complemented(Structure(60, (), ((),)), 0).links[0]), 3600)

    def test_maps_stay(self):
        chooser = Chooser(2)
        for _ in range(20):
            one = chooser.structure(4, (2, 2))
            names = chooser.order(4)
            other = renamed(one, names)
            for call, index in ((without, 1), (turned, 1), (complemented, 0)):
                self.assertTrue(is_map(call(one, index), call(other, index), names))
            self.assertIsNotNone(map_between(induced(one, (0, 2)), induced(other, tuple(sorted((names[0], names[2]))))))

    def test_refusals(self):
        structure = (0, InvalidStructure, NO_STRUCTURES)
        names = [*WRONG, (), (0, 1), (0, 1, 3), (0, 1, 1), (0, 1, 2, 3), (0, True, 2), [0, 1, 2], (1, 2, -1), (0, 1, BIG)]
        refuses_each(self, renamed, (WEB, (0, 1, 2)), [structure, (1, InvalidOperation, names)])
        lots = [*[x for x in WRONG if x != ()], (1, 0), (0, 0), (3,), (-1,), (True,), (False, 1), [0], (0, 1, 2, 3), (BIG,)]
        refuses_each(self, induced, (WEB, (0, 2)), [structure, (1, InvalidOperation, lots)])
        for call in (without, turned, complemented):
            refuses_each(self, call, (WEB, 1), [structure, (1, InvalidNumber, [*NO_NUMBERS, 2, -1])])
            refuses(self, InvalidNumber, 0, call, Structure(3, (), ()), 0)
        refuses(self, InvalidOperation, None, renamed, Structure(0, (), ()), (0,))
        self.assertEqual(renamed(Structure(0, (), ()), ()), Structure(0, (), ()))


if __name__ == "__main__":
    unittest.main()
