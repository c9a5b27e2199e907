"""Stage 4: kinds."""

import unittest
from itertools import product

from tests.helpers import BIG, NO_FORMULAS, NO_NUMBERS, NO_ROWS, NO_STRUCTURES, WRONG, Chooser, accepts_all, nested
from tests.helpers import plain_atom, plain_kind, plainly_holds, refuses, refuses_each, rows_with, structures_of
from wholebyparts.errors import InvalidFormula, InvalidKind, InvalidNumber, InvalidOperation, InvalidRow
from wholebyparts.errors import InvalidStructure, TooMany
from wholebyparts.kinds.kinds import atom, cut, is_kind, kind, left_out, same_kind, told
from wholebyparts.part.structures import Structure, renamed

TRUE = ("true",)
LINE = Structure(2, ((0,),), (((0, 1),),))
EMPTY = Structure(0, ((),), ((),))
SMALL = [one for size in range(3) for one in structures_of(size, (1, 1))][::2]
NO_SIGNATURES = [*NO_NUMBERS, (0,), (3, 0), (0, 3), (True, 0), [1, 1]]
NO_PLACES = [*NO_NUMBERS, 5]


def some(many, formula):
    return nested(lambda value: ("some", value), many, formula)


def replaced(value, spot, new):
    """The nested tuple with the new value at the spot, a tuple of indices."""
    if not spot:
        return new
    return value[:spot[0]] + (replaced(value[spot[0]], spot[1:], new),) + value[spot[0] + 1:]


def spots_of(value, ahead=()):
    """The spots of all values within a nested tuple."""
    found = [ahead]
    if isinstance(value, tuple):
        for index, member in enumerate(value):
            found.extend(spots_of(member, ahead + (index,)))
    return found


def at(value, spot):
    for index in spot:
        value = value[index]
    return value


class Reckoned(unittest.TestCase):
    def test_atoms(self):
        for structure in [LINE, EMPTY, *SMALL]:
            for many in range(4):
                for row in rows_with(structure, many):
                    self.assertEqual(atom(structure, row), plain_atom(structure, row))
        wide = Structure(3, ((0,), (1, 2)), (((0, 0), (1, 2)), ((2, 0),)))
        self.assertEqual(atom(wide, (2, -1, 2, 1)), (
            (1,), ((0, 2),), ((), (0, 2, 3)), (((3, 0), (3, 2)), ())))
        self.assertEqual(atom(Structure(0, (), ()), (-1, -1, -1, -1)), ((0, 1, 2, 3), (), (), ()))

    def test_kinds(self):
        chooser = Chooser(21)
        for _ in range(150):
            signature = (chooser.number(3), chooser.number(3))
            structure = chooser.structure(chooser.number(4), signature)
            row = chooser.row(structure, chooser.number(4))
            depth = chooser.number(min(3, 4 - len(row)) + 1)
            found = kind(structure, row, depth)
            self.assertEqual(found, plain_kind(structure, row, depth))
            self.assertIs(is_kind(signature, len(row), depth, found), True)

    def test_equal_members_come_once(self):
        pair = Structure(60, (tuple(range(60)),), ())
        self.assertEqual([len(kind(pair, (), depth)[1]) for depth in (0, 1, 2)], [0, 2, 2])
        self.assertEqual(kind(EMPTY, (), 1), (((), (), ((),), ((),)), ((((0,), (), ((),), ((),)), ()),)))

    def test_one_member_with_none_behind(self):
        for structure in [LINE, EMPTY, *SMALL]:
            for many in range(3):
                for row in rows_with(structure, many):
                    members = kind(structure, row, 2)[1]
                    self.assertEqual([m for m in members if many in m[0][0]], [kind(structure, row + (-1,), 1)])

    def test_depths_and_limits(self):
        fifteen, sixteen, sixty = (Structure(size, (), ()) for size in (15, 16, 60))
        for structure, depth in ((fifteen, 3), (sixteen, 2), (sixty, 2), (sixty, 1)):
            self.assertEqual(len(kind(structure, (), depth)[1]), 2)
            self.assertIs(same_kind(structure, (), structure, (), depth), True)
        for structure, depth in ((sixteen, 3), (sixty, 3)):
            refuses(self, TooMany, 4096, kind, structure, (), depth)
            refuses(self, TooMany, 4096, same_kind, structure, (), fifteen, (), depth)
            refuses(self, TooMany, 4096, same_kind, fifteen, (), structure, (), depth)
            refuses(self, InvalidOperation, None, same_kind, fifteen, (), Structure(60, ((),), ()), (), depth)
        for many in range(5):
            row = (0,) * many
            for depth in range(6):
                if depth <= 3 and many + depth <= 4:
                    self.assertEqual(kind(LINE, row, depth), plain_kind(LINE, row, depth))
                    self.assertIs(is_kind((1, 1), many, depth, kind(LINE, row, depth)), True)
                    self.assertIs(same_kind(LINE, row, LINE, row, depth), True)
                else:
                    refuses(self, InvalidNumber, depth, kind, LINE, row, depth)
                    refuses(self, InvalidNumber, depth, is_kind, (1, 1), many, depth, None)
                    refuses(self, InvalidNumber, depth, same_kind, LINE, row, LINE, (), depth)
                    refuses(self, InvalidNumber, depth, same_kind, LINE, (), LINE, row, depth)

    def test_same_kind(self):
        chooser = Chooser(22)
        answers = {True: 0, False: 0}
        for _ in range(300):
            signature = (chooser.number(2), chooser.number(2))
            one, other = (chooser.structure(chooser.number(4), signature) for _ in range(2))
            many = chooser.number(3)
            row, goal = chooser.row(one, many), chooser.row(other, many)
            depth = chooser.number(min(3, 4 - many) + 1)
            found = same_kind(one, row, other, goal, depth)
            self.assertIs(found, plain_kind(one, row, depth) == plain_kind(other, goal, depth))
            answers[found] += 1
        self.assertGreater(min(answers.values()), 20)

    def test_two_marks_and_links(self):
        chooser = Chooser(24)
        answers = {True: 0, False: 0}
        for index in range(300):
            one = chooser.structure(chooser.number(4), (2, 2) if index % 2 else (1, 2))
            many = chooser.number(4)
            row = chooser.row(one, many)
            names = chooser.order(one.size)
            other, goal = renamed(one, names), tuple(names[member] if member >= 0 else -1 for member in row)
            if index % 3:
                other, goal = chooser.structure(one.size, one.signature), chooser.row(one, many)
            depth = chooser.number(min(2, 4 - many) + 1)
            found = same_kind(one, row, other, goal, depth)
            self.assertIs(found, plain_kind(one, row, depth) == plain_kind(other, goal, depth))
            self.assertEqual(kind(one, row, depth), plain_kind(one, row, depth))
            self.assertIs(is_kind(one.signature, many, depth, kind(one, row, depth)), True)
            answers[found] += 1
        self.assertGreater(min(answers.values()), 20)

    def test_all_small_structures(self):
        links = [one for size in range(3) for one in structures_of(size, (0, 1))]
        both = [one for size in range(2) for one in structures_of(size, (2, 2))] + structures_of(2, (0, 2))[::23]
        for structures in (links, [one for one in both if one.signature == (0, 2)], [one for one in both if one.signature[0]]):
            for many, depth in ((0, 1), (0, 2), (1, 0), (1, 1), (2, 1)):
                spots = [(one, row) for one in structures for row in rows_with(one, many)][::1 if many < 2 else 4]
                plain = [plain_kind(one, row, depth) for one, row in spots]
                for (one, row), first in zip(spots, plain):
                    self.assertEqual(kind(one, row, depth), first)
                    for (other, goal), second in zip(spots, plain):
                        self.assertIs(same_kind(one, row, other, goal, depth), first == second)

    def test_long_orders(self):
        orders = {size: Structure(size, (), (tuple((a, b) for a in range(size) for b in range(a + 1, size)),))
                  for size in (4, 6, 7, 14, 15)}
        self.assertIs(same_kind(orders[15], (), orders[15], (), 3), True)
        self.assertIs(same_kind(orders[15], (), orders[14], (), 3), True)
        self.assertIs(same_kind(orders[15], (), orders[7], (), 3), True)
        self.assertIs(same_kind(orders[15], (), orders[6], (), 3), False)
        self.assertIs(same_kind(orders[15], (7,), orders[15], (8,), 3), False)
        self.assertEqual(len(kind(orders[15], (), 3)[1]), len(kind(orders[7], (), 3)[1]))
        told = kind(orders[4], (0,), 3)
        self.assertEqual(told, plain_kind(orders[4], (0,), 3))
        self.assertIs(is_kind((0, 1), 1, 3, told), True)
        self.assertIs(is_kind((0, 1), 1, 2, told), False)
        self.assertIs(is_kind((0, 1), 1, 3, kind(orders[4], (0,), 2)), False)

    def test_named_anew(self):
        chooser = Chooser(23)
        for _ in range(30):
            structure, names = chooser.structure(3, (1, 1)), (*chooser.order(3), -1)
            row = chooser.row(structure, 2)
            moved = tuple(names[member] for member in row)
            self.assertEqual(kind(structure, row, 2), kind(renamed(structure, names[:3]), moved, 2))

    def test_refusals(self):
        structures = (0, InvalidStructure, NO_STRUCTURES)
        rows = (1, InvalidRow, [*NO_ROWS, (2,), (0, 2), (True,), [0]])
        depths = [*NO_NUMBERS, 4, 3]
        refuses_each(self, atom, (LINE, (0, -1)), [structures, rows])
        refuses_each(self, kind, (LINE, (0, -1), 2), [structures, rows, (2, InvalidNumber, depths)])
        refuses_each(self, same_kind, (LINE, (0, -1), LINE, (1, 1), 2), [
            structures, rows, (2, InvalidStructure, NO_STRUCTURES), (3, InvalidRow, rows[2]), (4, InvalidNumber, depths)])
        refuses_each(self, is_kind, ((1, 1), 2, 1, None), [
            (0, InvalidNumber, NO_SIGNATURES), (1, InvalidNumber, NO_PLACES), (2, InvalidNumber, depths)])
        for other, goal in ((Structure(2, (), ((),)), (0,)), (LINE, ()), (LINE, (0, 0)), (Structure(2, ((),), ()), (0, 0))):
            refuses(self, InvalidOperation, None, same_kind, LINE, (0,), other, goal, 1)
        refuses(self, InvalidNumber, 3, same_kind, LINE, (), LINE, (0, 0), 3)


class Form(unittest.TestCase):
    """Values near kinds."""

    def atoms_at(self, signature, places):
        """The atoms of all rows of so many places: of each that has just the members that it names."""
        found = {}
        for row in product(range(-1, places), repeat=places):
            size = max(row, default=-1) + 1
            if sorted(set(row) - {-1}) == list(range(size)):
                for structure in structures_of(size, signature):
                    found[plain_atom(structure, row)] = True
        return found

    def test_all_atoms_of_two_places(self):
        places = range(2)
        numbers = [(), (0,), (1,), (0, 1)]
        pairs = [tuple(pair for pair, is_in in zip(product(places, repeat=2), chosen) if is_in)
                 for chosen in product((False, True), repeat=4)]
        right = self.atoms_at((1, 1), 2)
        counted = 0
        for nones, same, mark, link in product(numbers, pairs, numbers, pairs):
            value = (nones, same, (mark,), (link,))
            self.assertIs(is_kind((1, 1), 2, 0, (value, ())), value in right, value)
            counted += value in right
        self.assertEqual(counted, len(right))

    def test_all_sequences_of_numbers_and_pairs(self):
        right = self.atoms_at((1, 1), 2)

        def check(told, *value):
            is_flat = not any(type(number) is bool for number in told)
            self.assertIs(is_kind((1, 1), 2, 0, (value, ())), is_flat and value in right, value)
        for lot in [lot for many in range(4) for lot in product((-2, -1, 0, 1, 2, True, False), repeat=many)]:
            check(lot, lot, (), ((),), ((),))
            check(lot, (), (), (lot,), ((),))
        pairs = list(product((-1, 0, 1, 2), repeat=2)) + [(0, True), (False, 1), (True, 1), (-1, 4), (0, -2), (3, -3), (0, 3)]
        for lot in [lot for many in range(3) for lot in product(pairs, repeat=many)]:
            told = [number for pair in lot for number in pair]
            check(told, (), lot, ((),), ((),))
            check(told, (), (), ((),), (lot,))

    def test_atoms_of_unlike_forms(self):
        good = kind(LINE, (0, 1), 0)[0]
        self.assertIs(is_kind((1, 1), 2, 0, (good, ())), True)
        for index in range(4):
            for wrong in (*WRONG, 0, "0", [good[index]], (good[index], good[index]), list(good[index]), (good[index],) * 3):
                value = good[:index] + (wrong,) + good[index + 1:]
                if value != good and wrong != ():
                    self.assertIs(is_kind((1, 1), 2, 0, (value, ())), False)
        for index in (2, 3):
            for wrong in (*WRONG, 0, [], [0], [(0, 1)], ((0, 1, 1),), ((0,),), (None,), ([0, 1],)):
                value = good[:index] + ((wrong,),) + good[index + 1:]
                if wrong != ():
                    self.assertIs(is_kind((1, 1), 2, 0, (value, ())), False, (index, wrong))
        for value in (good[:3], (*good, ()), list(good), None):
            self.assertIs(is_kind((1, 1), 2, 0, (value, ())), False)

    def test_all_classes_of_four_places(self):
        pairs = [(i, j) for i in range(4) for j in range(i + 1, 4)]
        right = self.atoms_at((0, 0), 4)
        for nones in ((), (1,), (0, 3), (0, 1, 2, 3)):
            for chosen in product((False, True), repeat=6):
                same = tuple(pair for pair, is_in in zip(pairs, chosen) if is_in)
                value = (nones, same, (), ())
                self.assertIs(is_kind((0, 0), 4, 0, (value, ())), value in right)

    def test_other_signatures_places_and_depths(self):
        for depth in range(4):
            for places in range(5 - depth):
                found = kind(LINE, (0,) * places, depth)
                for other in range(5):
                    for deeper in range(4):
                        if other + deeper <= 4:
                            # Without members nothing tells how many places there are beside those that are named.
                            right = deeper == depth and (other == places or depth == 0 and other > places)
                            self.assertIs(is_kind((1, 1), other, deeper, found), right)
                self.assertIs(is_kind((1, 0), places, depth, found), False)
                self.assertIs(is_kind((1, 2), places, depth, found), False)

    def test_members_dropped_doubled_turned(self):
        chooser = Chooser(24)
        for _ in range(40):
            structure = chooser.structure(3, (1, 1))
            row = chooser.row(structure, chooser.number(2))
            places = len(row)
            found = kind(structure, row, 2)
            head, members = found
            for index, member in enumerate(members):
                rest = members[:index] + members[index + 1:]
                last = [pair for pair in member[0][1] if pair[1] == places]
                dropped = is_kind((1, 1), places, 2, (head, rest))
                # What no place and no none asks for, can lack.
                only = [m for m in rest if [pair for pair in m[0][1] if pair[1] == places] == last]
                wanted = places not in member[0][0] and (not last or bool(only))
                self.assertIs(dropped, wanted)
                self.assertIs(is_kind((1, 1), places, 2, (head, members[:index] + (member, member) + members[index + 1:])), False)
                self.assertIs(is_kind((1, 1), places, 2, (head, members[:index] + (member[:1],) + members[index + 1:])), False)
            if len(members) > 1:
                self.assertIs(is_kind((1, 1), places, 2, (head, members[::-1])), False)
            for bent in ((head,), (head, list(members)), [head, members], (head, members, ()), (list(head), members), (head, ())):
                self.assertIs(is_kind((1, 1), places, 2, bent), False)

    def test_true_and_false_in_the_place_of_numbers(self):
        found = kind(LINE, (0, 1), 1)
        for spot in spots_of(found):
            value = at(found, spot)
            if isinstance(value, int):
                self.assertIs(is_kind((1, 1), 2, 1, replaced(found, spot, bool(value))), False)
                self.assertIs(is_kind((1, 1), 2, 1, replaced(found, spot, BIG)), False)
                self.assertIs(is_kind((1, 1), 2, 1, replaced(found, spot, None)), False)
            for bent in (None, [], {}, "", value, (value,)):
                if bent is not value:
                    self.assertIs(is_kind((1, 1), 2, 1, replaced(found, spot, bent)), False)

    def test_an_atom_ahead_that_is_another_one(self):
        head, members = kind(LINE, (0,), 1)
        other = kind(LINE, (1,), 1)[0]
        self.assertIs(is_kind((1, 1), 1, 1, (other, members)), False)
        self.assertIs(is_kind((1, 1), 1, 1, (head, members)), True)

    def test_kinds_that_no_row_has_are_let(self):
        # Some element has a mark at one depth, and none has it at the other one.
        none, marked = (((0,), (), ((),), ()), ()), (((), (), ((0,),), ()), ())
        plain = (((), (), ((),), ()), ())
        deep_none = (((0,), (), ((),), ()), tuple(sorted([(((0, 1), (), ((),), ()), ())])))
        deep_marked = (((), (), ((0,),), ()), tuple(sorted([(((1,), (), ((0,),), ()), ()), (((), ((0, 1),), ((0, 1),), ()), ()),
                                                            (((), (), ((0,),), ()), ())])))
        self.assertIs(is_kind((1, 0), 0, 1, (((), (), ((),), ()), tuple(sorted([none, marked, plain])))), True)
        odd = (((), (), ((),), ()), tuple(sorted([deep_none, deep_marked])))
        self.assertIs(is_kind((1, 0), 0, 2, odd), True)
        self.assertEqual(cut((1, 0), 0, odd, 1), (((), (), ((),), ()), (marked, none)))

    def test_judged_values(self):
        accepts_all(self, is_kind, (1, 1), 0, 0)
        accepts_all(self, is_kind, (1, 1), 1, 3)
        accepts_all(self, is_kind, (0, 0), 0, 3)


class Told(unittest.TestCase):
    def test_told(self):
        chooser = Chooser(25)
        for _ in range(400):
            signature = (chooser.number(3), chooser.number(2))
            structure = chooser.structure(chooser.number(4), signature)
            row = chooser.row(structure, chooser.number(4))
            depth = chooser.number(min(3, 4 - len(row)) + 1)
            formula = chooser.formula(signature, len(row), depth, 2 + chooser.number(12))
            found = told(signature, len(row), kind(structure, row, depth), formula)
            self.assertIs(found, plainly_holds(structure, formula, row))

    def test_kinds_that_no_row_has(self):
        none, marked = (((0,), (), ((),), ()), ()), (((), (), ((0,),), ()), ())
        found = (((), (), ((),), ()), (marked, none))
        self.assertIs(told((1, 0), 0, found, ("all", ("mark", 0, 0))), True)
        self.assertIs(told((1, 0), 0, (found[0], (none,)), ("some", TRUE)), False)
        self.assertIs(told((1, 0), 0, (found[0], (none,)), ("all", ("not", TRUE))), True)

    def test_nones(self):
        found = kind(LINE, (-1, -1, 0), 1)
        for formula, answer in ((("same", 0, 1), True), (("same", 0, 2), False), (("same", 2, 2), True), (("same", 1, 0), True),
                                (("none", 2), False), (("link", 0, 0, 1), False), (("some", ("none", 3)), False)):
            self.assertIs(told((1, 1), 3, found, formula), answer, formula)

    def test_depths(self):
        found = kind(LINE, (), 2)
        self.assertIs(told((1, 1), 0, found, some(2, ("link", 0, 0, 1))), True)
        refuses(self, InvalidOperation, None, told, (1, 1), 0, found, some(3, TRUE))
        refuses(self, InvalidFormula, None, told, (1, 1), 0, found, some(4, TRUE))
        for depth in range(3):
            refuses(self, InvalidOperation, None, told, (1, 1), 0, kind(LINE, (), depth), some(depth + 1, TRUE))

    def test_cut(self):
        for structure in [LINE, EMPTY, *SMALL]:
            for many in range(3):
                for row in rows_with(structure, many):
                    depth = min(2, 4 - many)
                    for lesser in range(depth + 1):
                        self.assertEqual(cut((1, 1), many, kind(structure, row, depth), lesser), kind(structure, row, lesser))
        three = Structure(3, (), (((0, 1), (1, 2)),))
        for depth in range(4):
            self.assertEqual(cut((0, 1), 0, kind(three, (), 3), depth), kind(three, (), depth))
            if depth < 3:
                refuses(self, InvalidNumber, depth + 1, cut, (0, 1), 0, kind(three, (), depth), depth + 1)

    def test_left_out(self):
        for structure in [LINE, EMPTY, *SMALL[::3]]:
            for many in range(1, 4):
                for row in rows_with(structure, many):
                    for place in range(many):
                        for depth in range(min(2, 4 - many) + 1):
                            found = left_out((1, 1), many, kind(structure, row, depth), place)
                            self.assertEqual(found, kind(structure, row[:place] + row[place + 1:], depth))

    def test_refusals(self):
        found = kind(LINE, (0, 1), 1)
        kinds = [*WRONG, kind(LINE, (0,), 1), kind(Structure(2, (), ((),)), (0, 1), 1), (found[0], found[1][1:]), found[0],
                 (found[0], found[1][::-1]), list(found)]
        ahead = [(0, InvalidNumber, NO_SIGNATURES), (1, InvalidNumber, NO_PLACES), (2, InvalidKind, kinds)]
        formulas = [*NO_FORMULAS, ("none", 2), ("mark", 1, 0), some(3, TRUE)]
        refuses_each(self, told, ((1, 1), 2, found, ("some", ("none", 2))), [*ahead, (3, InvalidFormula, formulas)])
        refuses_each(self, cut, ((1, 1), 2, found, 1), [*ahead, (3, InvalidNumber, [*NO_NUMBERS, 2])])
        refuses_each(self, left_out, ((1, 1), 2, found, 1), [*ahead, (3, InvalidNumber, [*NO_NUMBERS, 2])])
        refuses(self, InvalidNumber, 0, left_out, (1, 1), 0, kind(LINE, (), 1), 0)
        # With more than four places and depth together there is no kind.
        for places in range(1, 5):
            deep = plain_kind(LINE, (0,) * places, 5 - places)
            refuses(self, InvalidKind, None, told, (1, 1), places, deep, TRUE)
            refuses(self, InvalidKind, None, cut, (1, 1), places, deep, 0)
            refuses(self, InvalidKind, None, left_out, (1, 1), places, deep, 0)


if __name__ == "__main__":
    unittest.main()
