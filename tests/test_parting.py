"""Stage 5: formulas that part kinds."""

import unittest
from itertools import product

from tests.helpers import BIG, NO_FORMULAS, NO_NUMBERS, NO_ROWS, NO_STRUCTURES, WRONG, Chooser, accepts_all, nested, of_nodes
from tests.helpers import plain_kind, plainly_holds, refuses, refuses_each, rows_with, structures_of
from wholebyparts.errors import InvalidKind, InvalidNumber, InvalidOperation, InvalidRow, InvalidStructure, TooMany
from wholebyparts.kinds.kinds import is_kind, kind
from wholebyparts.kinds.parting import formula_of, is_parting_answer, least_depth, parting_answer
from wholebyparts.part.structures import Structure
from wholebyparts.say.formulas import depth_of, is_formula

TRUE = ("true",)
LINE = Structure(2, ((0,),), (((0, 1),),))
NO_SIGNATURES = [*NO_NUMBERS, (0,), (3, 0), (0, 3), (True, 0), [1, 1]]


def some(many, formula):
    return nested(lambda value: ("some", value), many, formula)


class FormulaOf(unittest.TestCase):
    def check(self, signature, places, depth, structures):
        """The formula of each kind that is met holds at just the rows of it."""
        rows = [(one, row, plain_kind(one, row, depth)) for one in structures for row in rows_with(one, places)]
        for told in sorted({told for _, _, told in rows}):
            formula = formula_of(signature, places, told)
            self.assertIs(is_formula(signature, places, formula), True)
            self.assertLessEqual(depth_of(signature, places, formula), depth)
            for one, row, found in rows:
                self.assertIs(plainly_holds(one, formula, row), found == told)

    def test_depth_of_none(self):
        self.check((1, 1), 0, 0, structures_of(1, (1, 1)))
        self.check((1, 1), 1, 0, structures_of(2, (1, 1)))
        self.check((1, 1), 2, 0, structures_of(1, (1, 1)) + structures_of(2, (1, 1))[::3])
        self.check((2, 0), 2, 0, structures_of(2, (2, 0)))
        self.check((0, 0), 4, 0, structures_of(2, (0, 0)) + structures_of(3, (0, 0)) + structures_of(4, (0, 0)))

    def test_depth_of_one(self):
        small = [one for size in range(3) for one in structures_of(size, (1, 1))]
        self.check((1, 1), 0, 1, small)
        self.check((1, 1), 1, 1, small[::5])
        self.check((2, 0), 0, 1, [one for size in range(4) for one in structures_of(size, (2, 0))])
        self.check((2, 0), 1, 1, [one for size in range(3) for one in structures_of(size, (2, 0))])
        self.check((0, 0), 3, 1, [one for size in range(5) for one in structures_of(size, (0, 0))])

    def test_greater_depths(self):
        self.check((0, 0), 0, 3, [one for size in range(5) for one in structures_of(size, (0, 0))])
        self.check((1, 0), 0, 2, [one for size in range(4) for one in structures_of(size, (1, 0))])
        self.check((0, 1), 0, 2, [one for size in range(3) for one in structures_of(size, (0, 1))])
        self.check((1, 0), 1, 2, [one for size in range(3) for one in structures_of(size, (1, 0))])

    def kinds_by_form(self, places):
        """All kinds by form, with one mark, of the depth 1."""
        head = kind(Structure(places, (tuple(range(0, places, 2)),), ()), tuple(range(places)), 0)[0]
        same = [m for m in kind(Structure(places + 1, (tuple(range(0, places, 2)),), ()), tuple(range(places)), 1)[1]
                if [pair for pair in m[0][1] if pair[1] == places] or places in m[0][0]]
        others = [(((), (), (tuple([*head[2][0], *mark]),), ()), ()) for mark in ((), (places,))]
        return [(head, tuple(sorted([*same, *chosen]))) for chosen in ((), others[:1], others[1:], others)]

    def test_all_kinds_of_one_depth_by_form(self):
        for places in range(4):
            for told in self.kinds_by_form(places):
                self.assertIs(is_kind((1, 0), places, 1, told), True)
                formula = formula_of((1, 0), places, told)
                for size in range(6):
                    for one in structures_of(size, (1, 0)):
                        row = tuple(range(min(places, size))) + (-1,) * max(0, places - size)
                        self.assertIs(plainly_holds(one, formula, row), plain_kind(one, row, 1) == told)

    def test_kinds_that_no_row_has(self):
        none, marked = (((0,), (), ((),), ()), ()), (((), (), ((0,),), ()), ())
        # Behind a none nothing is, but behind nothing something is.
        deep_none = (((0,), (), ((),), ()), ((((0, 1), (), ((),), ()), ()),))
        deep_marked = (((), (), ((0,),), ()), tuple(sorted([(((1,), (), ((0,),), ()), ()), (((), ((0, 1),), ((0, 1),), ()), ())])))
        odd = (((), (), ((),), ()), tuple(sorted([deep_none, deep_marked])))
        self.assertIs(is_kind((1, 0), 0, 2, odd), True)
        right = (odd[0], tuple(sorted([deep_marked, (((0,), (), ((),), ()), tuple(sorted([
            (((0, 1), (), ((),), ()), ()), (((0,), (), ((1,),), ()), ())])))])))
        self.assertEqual(right, kind(Structure(1, ((0,),), ()), (), 2))
        # As above, one place and one depth farther.
        seen = (((), (), ((),), ()), ((((0,), (), ((),), ()), ()),))
        formula, other = formula_of((1, 0), 0, odd), formula_of((1, 0), 0, right)
        self.assertIs(is_formula((1, 0), 0, formula), True)
        for size in range(4):
            for one in structures_of(size, (1, 0)):
                self.assertIs(plainly_holds(one, formula, ()), False)
                self.assertIs(plainly_holds(one, other, ()), kind(one, (), 2) == right)
                self.assertIs(plainly_holds(one, formula_of((1, 0), 0, seen), ()), size == 0)
        self.assertEqual((none[1], marked[1]), ((), ()))

    def test_never_too_many_without_links_to_depth_one(self):
        rich = Structure(12, ((0, 1, 4, 5, 8, 9), (0, 2, 4, 6, 8, 10)), ())
        for places in range(5):
            for row in ((0, 1, 2, 3)[:places], (0, 0, 5, -1)[:places], (-1,) * places):
                for depth in range(2 if places < 4 else 1):
                    formula = formula_of((2, 0), places, kind(rich, row, depth))
                    self.assertIs(is_formula((2, 0), places, formula), True)
                    self.assertIs(plainly_holds(rich, formula, row), True)

    def test_too_many(self):
        chooser = Chooser(31)
        refuses(self, TooMany, 2000, formula_of, (2, 2), 0, kind(chooser.structure(15, (2, 2)), (), 3))

    def test_refusals(self):
        found = kind(LINE, (0, 1), 1)
        kinds = [*WRONG, kind(LINE, (0,), 1), kind(Structure(2, (), ((),)), (0, 1), 1), (found[0], found[1][1:]), found[0],
                 (found[0], found[1][::-1]), list(found)]
        refuses_each(self, formula_of, ((1, 1), 2, found), [
            (0, InvalidNumber, NO_SIGNATURES), (1, InvalidNumber, [*NO_NUMBERS, 5]), (2, InvalidKind, kinds)])


class Parting(unittest.TestCase):
    def pairs(self, seed, many):
        chooser = Chooser(seed)
        for _ in range(many):
            signature = (chooser.number(3), chooser.number(2))
            one, other = (chooser.structure(chooser.number(4), signature) for _ in range(2))
            places = chooser.number(4)
            row, goal = chooser.row(one, places), chooser.row(other, places)
            yield one, row, other, goal, chooser.number(min(3, 4 - places) + 1)

    def test_answers(self):
        counted = {"alike": 0, "formula": 0}
        for one, row, other, goal, depth in self.pairs(32, 300):
            answer = parting_answer(one, row, other, goal, depth)
            counted[answer[0]] += 1
            if plain_kind(one, row, depth) == plain_kind(other, goal, depth):
                self.assertEqual(answer, ("alike",))
            else:
                self.assertEqual((answer[0], len(answer)), ("formula", 2))
                self.assertIs(is_formula(one.signature, len(row), answer[1]), True)
                self.assertLessEqual(depth_of(one.signature, len(row), answer[1]), depth)
                self.assertIs(plainly_holds(one, answer[1], row), True)
                self.assertIs(plainly_holds(other, answer[1], goal), False)
            self.assertIs(is_parting_answer(one, row, other, goal, depth, answer), True)
        self.assertGreater(min(counted.values()), 20)

    def test_judged_formulas(self):
        chooser = Chooser(33)
        counted = {True: 0, False: 0}
        for one, row, other, goal, depth in self.pairs(34, 200):
            is_alike = plain_kind(one, row, depth) == plain_kind(other, goal, depth)
            self.assertIs(is_parting_answer(one, row, other, goal, depth, ("alike",)), is_alike)
            for _ in range(5):
                formula = chooser.formula(one.signature, len(row), min(3, 4 - len(row)), 8)
                right = depth_of(one.signature, len(row), formula) <= depth
                right = right and plainly_holds(one, formula, row) and not plainly_holds(other, formula, goal)
                self.assertIs(is_parting_answer(one, row, other, goal, depth, ("formula", formula)), right)
                counted[right] += 1
                if right:
                    self.assertIs(is_alike, False)
        self.assertGreater(min(counted.values()), 20)

    def test_judged_values(self):
        two, one = Structure(2, ((0,),), ()), Structure(1, ((0,),), ())
        more = ("some", ("not", ("mark", 0, 0)))
        self.assertIs(is_parting_answer(two, (), one, (), 1, ("formula", more)), True)
        self.assertIs(is_parting_answer(two, (), one, (), 3, ("formula", more)), True)
        near = [("formula", more, ()), ["formula", more], ("formula",), ("alike", more), ("alike",), ("Formula", more), (more,),
                ("formula", ("some", ("not", ("mark", False, 0)))), ("formula", ("some", ("not", ("mark", 0, False)))), more,
                ("formula", list(more)), ("formula", ("not", more)), ("formula", ("and", more, of_nodes(1999))), "formula",
                *[("formula", value) for value in NO_FORMULAS]]
        accepts_all(self, is_parting_answer, two, (), one, (), 1, values=[*WRONG, *near])
        self.assertIs(is_parting_answer(one, (), one, (), 1, ("alike",)), True)
        near = [["alike"], ("alike", ()), ("Alike",), ("formula",), "alike", (), ("formula", TRUE), ("formula", ("not", TRUE))]
        accepts_all(self, is_parting_answer, one, (), one, (), 1, values=[*WRONG, *near])
        self.assertIs(is_parting_answer(two, (), one, (), 1, ("formula", ("and", more, of_nodes(1995)))), True)

    def test_never_too_many_without_links_to_depth_one(self):
        chooser = Chooser(35)
        for _ in range(40):
            one, other = (chooser.structure(60, (2, 0)) for _ in range(2))
            row, goal = (0, -1, 7), (0, -1, chooser.number(60))
            answer = parting_answer(one, row, other, goal, 1)
            self.assertIs(is_parting_answer(one, row, other, goal, 1, answer), True)

    def test_large_alike_rows(self):
        full = Structure(60, (), (tuple(product(range(60), repeat=2)),))
        self.assertEqual(parting_answer(full, (), full, (), 2), ("alike",))

    def test_kinds_limit(self):
        fifteen, sixteen, marked = Structure(15, (), ()), Structure(16, (), ()), Structure(16, ((),), ())
        self.assertEqual(parting_answer(fifteen, (), fifteen, (), 3), ("alike",))
        self.assertEqual(parting_answer(sixteen, (), fifteen, (), 2), ("alike",))
        for one, other in ((sixteen, fifteen), (fifteen, sixteen)):
            refuses(self, TooMany, 4096, parting_answer, one, (), other, (), 3)
            refuses(self, TooMany, 4096, is_parting_answer, one, (), other, (), 3, None)
        refuses(self, InvalidOperation, None, parting_answer, fifteen, (), marked, (), 3)

    def test_refusals(self):
        rows = [*NO_ROWS, (2,), (0, 2), (True,), [0]]
        wrong = [(0, InvalidStructure, NO_STRUCTURES), (1, InvalidRow, rows), (2, InvalidStructure, NO_STRUCTURES),
                 (3, InvalidRow, rows)]
        depths = (4, InvalidNumber, [*NO_NUMBERS, 3, 4])
        good = (LINE, (0, -1), LINE, (1, 1))
        refuses_each(self, parting_answer, (*good, 2), [*wrong, depths])
        refuses_each(self, is_parting_answer, (*good, 2, None), [*wrong, depths])
        refuses_each(self, least_depth, good, wrong)
        for other, goal in ((Structure(2, (), ((),)), (0,)), (LINE, ()), (LINE, (0, 0))):
            refuses(self, InvalidOperation, None, parting_answer, LINE, (0,), other, goal, 1)
            refuses(self, InvalidOperation, None, is_parting_answer, LINE, (0,), other, goal, 1, None)
            refuses(self, InvalidOperation, None, least_depth, LINE, (0,), other, goal)
        refuses(self, InvalidNumber, 3, parting_answer, LINE, (), LINE, (0, 0), 3)
        refuses(self, InvalidNumber, BIG, parting_answer, LINE, (), LINE, (0,), BIG)


class LeastDepth(unittest.TestCase):
    def test_all(self):
        chooser = Chooser(36)
        counted = {}
        for _ in range(300):
            signature = (chooser.number(2), chooser.number(2))
            one, other = (chooser.structure(chooser.number(4), signature) for _ in range(2))
            places = chooser.number(5)
            row, goal = chooser.row(one, places), chooser.row(other, places)
            wanted = [depth for depth in range(min(3, 4 - places) + 1)
                      if plain_kind(one, row, depth) != plain_kind(other, goal, depth)]
            found = least_depth(one, row, other, goal)
            self.assertEqual(found, wanted[0] if wanted else None)
            counted[found] = counted.get(found, 0) + 1
        self.assertEqual(sorted(counted, key=str), [0, 1, 2, 3, None])

    def test_limits(self):
        sixteen, twenty, marked = Structure(16, (), ()), Structure(20, (), ()), Structure(20, ((5,),), ())
        refuses(self, TooMany, 4096, least_depth, sixteen, (), twenty, ())
        self.assertEqual(least_depth(marked, (), Structure(20, ((),), ()), ()), 1)
        self.assertIsNone(least_depth(sixteen, (-1, -1), twenty, (-1, -1)))
        self.assertIsNone(least_depth(Structure(15, (), ()), (), Structure(14, (), ()), ()))
        refuses(self, TooMany, 4096, least_depth, Structure(15, (), ()), (0,), sixteen, (0,))


if __name__ == "__main__":
    unittest.main()
