"""Stage 3: what holds."""

import unittest
from itertools import product

from tests.helpers import BIG, NO_FORMULAS, NO_NUMBERS, NO_ROWS, NO_STRUCTURES, WRONG, Chooser, atoms_about, nested, of_nodes
from tests.helpers import plainly_holds, refuses, refuses_each, rows_with, structures_of
from wholebyparts.errors import InvalidFormula, InvalidNumber, InvalidRow, InvalidStructure, TooMany
from wholebyparts.part.structures import Structure, renamed
from wholebyparts.say import meaning
from wholebyparts.say.formulas import changed, depth_of, led, opposite
from wholebyparts.say.meaning import changed_structure, holds, rows_that, unlike_row, witness

TRUE = ("true",)
WEB = Structure(3, ((0, 2),), (((0, 1), (1, 2), (2, 2)),))
EMPTY = Structure(0, ((),), ((),))
SMALL = [one for size in range(3) for one in structures_of(size, (1, 1))]
NO_FREE = [*NO_NUMBERS, 5, -1, BIG]


def some(many, formula):
    return nested(lambda value: ("some", value), many, formula)


class Truth(unittest.TestCase):
    def test_constant(self):
        self.assertEqual(meaning.MOST_TRIED, 50000)

    def test_atoms_at_all_rows(self):
        for structure in [WEB, *SMALL[::3]]:
            for free in range(3):
                for row in rows_with(structure, free):
                    for atom in atoms_about((1, 1), free):
                        self.assertIs(holds(structure, free, atom, row), plainly_holds(structure, atom, row))

    def test_formulas_at_rows(self):
        chooser = Chooser(11)
        for _ in range(400):
            signature = (chooser.number(3), chooser.number(3))
            structure = chooser.structure(chooser.number(4), signature)
            free = chooser.number(5)
            formula = chooser.formula(signature, free, min(3, 4 - free), 2 + chooser.number(16))
            row = chooser.row(structure, free)
            self.assertIs(holds(structure, free, formula, row), plainly_holds(structure, formula, row))
            self.assertIs(holds(structure, free, opposite(signature, free, formula), row),
                          not plainly_holds(structure, formula, row))

    def test_atoms_within_quantifiers(self):
        chooser = Chooser(12)
        structures = [chooser.structure(size, (1, 1)) for size in (0, 1, 2, 3)]
        for structure, free, depth in product(structures, range(3), range(1, 4)):
            if free + depth > 4 or (depth == 3 and structure.size == 3):
                continue
            rows = rows_with(structure, free)[::2 if free > 1 else 1]
            for words, atom in product(product(("some", "all"), repeat=depth), atoms_about((1, 1), free + depth)):
                formula = atom
                for word in words:
                    formula = (word, formula)
                for row in rows:
                    self.assertIs(holds(structure, free, formula, row), plainly_holds(structure, formula, row))
                told = [row for row in product(range(structure.size), repeat=free) if plainly_holds(structure, formula, row)]
                self.assertEqual(rows_that(structure, free, formula), tuple(told))

    def test_many_rows_at_once(self):
        bare = Structure(36, (), ())
        self.assertIs(holds(bare, 0, some(3, ("not", ("same", 0, 2))), ()), True)
        self.assertIs(holds(bare, 0, ("not", some(3, ("not", ("same", 0, 2)))), ()), False)
        self.assertIs(holds(bare, 0, ("all", ("some", ("all", ("or", ("same", 0, 1), ("same", 1, 2))))), ()), True)
        self.assertIs(holds(bare, 0, ("some", ("all", ("all", ("or", ("same", 0, 1), ("same", 1, 2))))), ()), False)
        self.assertEqual(rows_that(bare, 1, some(2, ("same", 0, 1))), tuple((a,) for a in range(36)))
        self.assertEqual(rows_that(bare, 1, ("all", ("some", ("not", ("same", 0, 1))))), ())
        line = Structure(36, ((0, 35),), (tuple((a, a + 1) for a in range(35)),))
        after = ("some", ("some", ("and", ("and", ("link", 0, 0, 1), ("link", 0, 1, 2)), ("mark", 0, 2))))
        self.assertEqual(rows_that(line, 1, after), ((33,),))
        self.assertEqual(rows_that(line, 1, ("some", ("and", ("link", 0, 1, 0), ("mark", 0, 1)))), ((1,),))

    def test_without_members(self):
        for formula in (TRUE, ("not", TRUE), ("none", 0), ("mark", 0, 0)):
            self.assertIs(holds(EMPTY, 0, ("some", formula), ()), False)
            self.assertIs(holds(EMPTY, 0, ("all", formula), ()), True)
        self.assertIs(holds(EMPTY, 0, ("all", ("some", TRUE)), ()), True)
        self.assertIs(holds(EMPTY, 0, ("some", ("all", TRUE)), ()), False)
        self.assertIs(holds(EMPTY, 2, ("same", 0, 1), (-1, -1)), True)
        self.assertIs(holds(EMPTY, 1, ("some", ("same", 0, 1)), (-1,)), False)

    def test_quantifiers_never_take_none(self):
        self.assertIs(holds(WEB, 0, ("some", ("none", 0)), ()), False)
        self.assertIs(holds(WEB, 1, ("some", ("same", 0, 1)), (-1,)), False)
        self.assertIs(holds(WEB, 1, ("some", ("same", 0, 1)), (2,)), True)

    def test_nones_have_nothing(self):
        full = Structure(1, ((0,),), (((0, 0),),))
        for row in ((-1, 0), (0, -1), (-1, -1)):
            self.assertIs(holds(full, 2, ("link", 0, 0, 1), row), False)
            self.assertIs(holds(full, 2, ("same", 0, 1), row), row[0] == row[1])
        self.assertIs(holds(full, 1, ("mark", 0, 0), (-1,)), False)

    def test_named_anew(self):
        chooser = Chooser(12)
        for _ in range(60):
            structure, names = chooser.structure(3, (1, 1)), (*chooser.order(3), -1)
            formula, row = chooser.formula((1, 1), 2, 2, 10), chooser.row(structure, 2)
            moved = tuple(names[member] for member in row)
            self.assertIs(holds(structure, 2, formula, row), holds(renamed(structure, names[:3]), 2, formula, moved))
            exchanged = led((1, 1), 2, formula, (1, 0))
            self.assertIs(holds(structure, 2, exchanged, row), holds(structure, 2, formula, row[::-1]))

    def test_large_ones(self):
        order = Structure(60, (), (tuple((a, b) for a in range(60) for b in range(a + 1, 60)),))
        self.assertIs(holds(order, 0, ("all", ("some", ("or", ("link", 0, 0, 1), ("link", 0, 1, 0)))), ()), True)
        self.assertIs(holds(order, 0, ("all", ("some", ("link", 0, 0, 1))), ()), False)
        self.assertIs(holds(order, 2, ("some", ("and", ("link", 0, 0, 2), ("link", 0, 2, 1))), (3, 5)), True)
        self.assertIs(holds(order, 2, ("some", ("and", ("link", 0, 0, 2), ("link", 0, 2, 1))), (3, 4)), False)
        between = ("or", ("not", ("and", ("link", 0, 0, 1), ("link", 0, 1, 2))), ("link", 0, 0, 2))
        self.assertIs(holds(order, 1, ("all", ("all", between)), (7,)), True)
        third = Structure(36, (), (order.links[0][:1],))
        self.assertIs(holds(third, 0, some(3, of_nodes(1997, ("link", 0, 1, 2))), ()), True)

    def test_too_many(self):
        for size, depth, right in ((36, 3, True), (37, 3, False), (60, 2, True), (60, 3, False), (60, 0, True)):
            structure = Structure(size, (), ())
            if right:
                self.assertIs(holds(structure, 0, some(depth, TRUE), ()), True)
                self.assertIs(holds(structure, 1, some(depth, TRUE), (-1,)), True)
            else:
                refuses(self, TooMany, 50000, holds, structure, 0, some(depth, TRUE), ())
                refuses(self, InvalidRow, None, holds, structure, 0, some(depth, TRUE), (0,))
                refuses(self, TooMany, 50000, witness, structure, 1, some(depth, TRUE), (0,))
        self.assertEqual(witness(Structure(36, (), ()), 0, some(3, TRUE), ()), 0)

    def test_refusals(self):
        formulas = (2, InvalidFormula, [*NO_FORMULAS, ("none", 2), ("mark", 1, 0), ("link", 1, 0, 0), some(3, TRUE)])
        rows = (3, InvalidRow, [*NO_ROWS, (), (0,), (0, 3), (0, 1, 2), (-2, 0), (0, True), [0, 1]])
        structures, free = (0, InvalidStructure, NO_STRUCTURES), (1, InvalidNumber, NO_FREE)
        refuses_each(self, holds, (WEB, 2, some(2, ("none", 1)), (0, -1)), [structures, free, formulas, rows])
        refuses_each(self, rows_that, (WEB, 2, ("none", 1)), [structures, free, formulas])
        refuses_each(self, unlike_row, (WEB, 2, ("none", 1), TRUE), [
            structures, free, formulas, (3, *formulas[1:])])
        others = (2, InvalidFormula, [*formulas[2], ("none", 1), ("all", TRUE), ("not", ("some", TRUE)), TRUE])
        refuses_each(self, witness, (WEB, 2, ("some", ("none", 1)), (0, -1)), [structures, free, others, rows])
        refuses(self, InvalidRow, None, holds, WEB, 4, TRUE, (0, 0, 0))
        self.assertIs(holds(WEB, 4, ("same", 0, 3), (0, 1, -1, 0)), True)
        refuses(self, InvalidFormula, None, holds, EMPTY, 4, ("some", TRUE), (-1, -1, -1, -1))
        refuses(self, InvalidRow, None, holds, EMPTY, 1, TRUE, (0,))


class Rows(unittest.TestCase):
    def test_rows_that(self):
        chooser = Chooser(13)
        for _ in range(150):
            structure, free = chooser.structure(chooser.number(4), (1, 1)), chooser.number(4)
            formula = chooser.formula((1, 1), free, min(2, 4 - free), 10)
            wanted = [row for row in product(range(structure.size), repeat=free) if plainly_holds(structure, formula, row)]
            self.assertEqual(rows_that(structure, free, formula), tuple(wanted))

    def test_edges(self):
        self.assertEqual(rows_that(WEB, 0, TRUE), ((),))
        self.assertEqual(rows_that(WEB, 0, ("not", TRUE)), ())
        self.assertEqual(rows_that(EMPTY, 0, TRUE), ((),))
        self.assertEqual(rows_that(EMPTY, 3, TRUE), ())
        self.assertEqual(rows_that(WEB, 1, ("none", 0)), ())
        self.assertEqual(len(rows_that(WEB, 4, TRUE)), 81)

    def test_too_many(self):
        self.assertEqual(len(rows_that(Structure(36, (), ()), 3, TRUE)), 46656)
        self.assertEqual(len(rows_that(Structure(14, (), ()), 4, ("same", 0, 3))), 14 ** 3)
        self.assertEqual(len(rows_that(Structure(36, (), ()), 1, some(2, TRUE))), 36)
        for size, free, depth in ((37, 3, 0), (15, 4, 0), (37, 1, 2), (37, 0, 3), (15, 1, 3), (60, 2, 1)):
            structure = Structure(size, (), ())
            formula = some(depth, TRUE)
            refuses(self, TooMany, 50000, rows_that, structure, free, formula)
            refuses(self, TooMany, 50000, unlike_row, structure, free, formula, TRUE)
            refuses(self, TooMany, 50000, unlike_row, structure, free, TRUE, formula)
            refuses(self, InvalidFormula, None, unlike_row, structure, free, formula, None)

    def test_witness(self):
        chooser = Chooser(14)
        for _ in range(150):
            structure, free = chooser.structure(chooser.number(5), (1, 1)), chooser.number(4)
            inner = chooser.formula((1, 1), free + 1, min(1, 3 - free), 8)
            row = chooser.row(structure, free)
            found = [a for a in range(structure.size) if plainly_holds(structure, inner, row + (a,))]
            self.assertEqual(witness(structure, free, ("some", inner), row), found[0] if found else None)
        self.assertIsNone(witness(EMPTY, 0, ("some", TRUE), ()))

    def test_unlike_row(self):
        chooser = Chooser(15)
        for _ in range(150):
            structure, free = chooser.structure(chooser.number(4), (1, 1)), chooser.number(4)
            first, second = (chooser.formula((1, 1), free, min(1, 4 - free), 6) for _ in range(2))
            rows = [row for row in product(range(structure.size), repeat=free)
                    if plainly_holds(structure, first, row) != plainly_holds(structure, second, row)]
            self.assertEqual(unlike_row(structure, free, first, second), rows[0] if rows else None)
        # Rows of elements alone are asked.
        self.assertIsNone(unlike_row(WEB, 1, ("none", 0), ("not", TRUE)))
        self.assertEqual(unlike_row(WEB, 0, TRUE, ("not", TRUE)), ())


class Changed(unittest.TestCase):
    def test_data(self):
        found = changed_structure(WEB, (("not", ("mark", 0, 0)), TRUE), (("link", 0, 1, 0), ("same", 0, 1)))
        wanted = Structure(3, ((1,), (0, 1, 2)), (((1, 0), (2, 1), (2, 2)), ((0, 0), (1, 1), (2, 2))))
        self.assertEqual(found, wanted)
        self.assertEqual(changed_structure(WEB, (), ()), Structure(3, (), ()))
        self.assertEqual(changed_structure(EMPTY, (TRUE,), (TRUE, TRUE)), Structure(0, ((),), ((), ())))
        large = changed_structure(Structure(60, (), ()), (("none", 0),), (("not", ("same", 0, 1)),))
        self.assertEqual((large.marks, len(large.links[0])), (((),), 3540))

    def test_told_anew(self):
        chooser = Chooser(16)
        for _ in range(150):
            structure = chooser.structure(chooser.number(4), (1, 1))
            marks = tuple(chooser.formula((1, 1), 1, 0, 4) for _ in range(chooser.number(3)))
            links = tuple(chooser.formula((1, 1), 2, 0, 4) for _ in range(chooser.number(3)))
            free = chooser.number(3)
            formula = chooser.formula((len(marks), len(links)), free, 2, 9)
            self.assertLessEqual(depth_of((len(marks), len(links)), free, formula), 2)
            row = chooser.row(structure, free)
            self.assertIs(holds(changed_structure(structure, marks, links), free, formula, row),
                          holds(structure, free, changed((1, 1), marks, links, free, formula), row))

    def test_refusals(self):
        deep = ("some", TRUE)
        marks = [*[x for x in WRONG if x != ()], (TRUE,) * 3, (deep,), (("none", 1),), [TRUE], (TRUE, ("mark", 1, 0)), TRUE]
        links = [*[x for x in WRONG if x != ()], (TRUE,) * 3, (deep,), (("none", 2),), [TRUE], (("link", 1, 0, 0),), TRUE]
        refuses_each(self, changed_structure, (WEB, (TRUE,), (("none", 1), TRUE)), [
            (0, InvalidStructure, NO_STRUCTURES), (1, InvalidFormula, marks), (2, InvalidFormula, links)])


if __name__ == "__main__":
    unittest.main()
