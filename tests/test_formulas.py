"""Stage 2: formulas."""

import unittest
from itertools import permutations

from tests.helpers import BIG, DEEP_NOT, NO_FORMULAS, NO_NUMBERS, WRONG, Chooser, accepts_all, atoms_about, nested
from tests.helpers import of_nodes, plainly_holds, refuses, refuses_each, rows_with
from wholebyparts.errors import InvalidFormula, InvalidNumber, InvalidOperation, TooMany
from wholebyparts.say import formulas
from wholebyparts.say.formulas import changed, core, depth_of, is_formula, led, nodes_of, opposite, used

TRUE = ("true",)
NO_SIGNATURES = [*NO_NUMBERS, 0, (0,), (0, 0, 0), (3, 0), (0, 3), (-1, 0), (True, 0), (0, False), [0, 0], (0, BIG)]
NO_FREE = [*NO_NUMBERS, 5, -1, BIG]


def some(many, formula):
    return nested(lambda value: ("some", value), many, formula)


def within(many, word="not"):
    """A formula of so many nodes within one another."""
    if word == "not":
        return nested(lambda value: ("not", value), many - 1, TRUE)
    return nested(lambda value: (word, value, TRUE), many - 1, TRUE)


class Values(unittest.TestCase):
    def test_constants(self):
        self.assertEqual((formulas.MOST_NODES, formulas.MOST_DEPTH), (2000, 3))

    def test_atoms(self):
        for marks in range(3):
            for links in range(3):
                for free in range(5):
                    right = atoms_about((marks, links), free)
                    for atom in atoms_about((2, 2), 4):
                        self.assertIs(is_formula((marks, links), free, atom), atom in right, atom)

    def test_built(self):
        for formula in (("not", TRUE), ("and", TRUE, ("none", 0)), ("or", ("none", 0), TRUE), ("some", ("same", 0, 1))):
            self.assertIs(is_formula((0, 0), 1, formula), True)
        self.assertIs(is_formula((0, 0), 1, ("and", ("all", ("none", 1)), ("none", 0))), True)
        self.assertIs(is_formula((0, 0), 1, ("and", ("all", ("none", 1)), ("none", 1))), False)

    def test_quantifiers_bind_the_next_number(self):
        for free in range(4):
            self.assertIs(is_formula((0, 0), free, ("some", ("none", free))), True)
            self.assertIs(is_formula((0, 0), free, ("all", ("none", free + 1))), False)
        self.assertIs(is_formula((0, 0), 1, some(2, ("same", 1, 2))), True)
        self.assertIs(is_formula((0, 0), 0, some(2, ("same", 1, 2))), False)

    def test_depths(self):
        for free in range(5):
            for depth in range(6):
                right = depth <= 3 and depth + free <= 4
                self.assertIs(is_formula((0, 0), free, some(depth, TRUE)), right)
                mixed = ("and", some(depth, ("not", TRUE)), TRUE)
                self.assertIs(is_formula((0, 0), free, mixed), right)
        self.assertIs(is_formula((0, 0), 0, some(3, ("and", ("all", TRUE), TRUE))), False)

    def test_nodes(self):
        for nodes in (1, 2, 3, 1999, 2000):
            self.assertIs(is_formula((0, 0), 0, of_nodes(nodes)), True)
            self.assertEqual(nodes_of((0, 0), 0, of_nodes(nodes)), nodes)
        for nodes in (2001, 2002, 5000):
            self.assertIs(is_formula((0, 0), 0, of_nodes(nodes)), False)
            refuses(self, InvalidFormula, None, nodes_of, (0, 0), 0, of_nodes(nodes))

    def test_nodes_within_one_another(self):
        for word in ("not", "and", "or"):
            self.assertIs(is_formula((0, 0), 0, within(100, word)), True)
            self.assertIs(is_formula((0, 0), 0, within(101, word)), False)
        left = nested(lambda value: ("or", TRUE, value), 99, TRUE)
        self.assertIs(is_formula((0, 0), 0, left), True)
        self.assertIs(is_formula((0, 0), 0, ("or", TRUE, left)), False)

    def test_what_is_none(self):
        accepts_all(self, is_formula, (2, 2), 1, values=NO_FORMULAS)
        near = (("mark", True, 0), ("mark", 0, True), ("same", False, 0), ("none", BIG), ("link", 0, 0, True),
                ("not",), ("not", TRUE, TRUE), ("and", TRUE, TRUE, TRUE), ("all", TRUE, TRUE), ("true", TRUE), (TRUE,),
                ("TRUE",), ("mark", 2, 0), ("link", 2, 0, 0), ("none", -1), ("some", None), ("and", TRUE, DEEP_NOT))
        accepts_all(self, is_formula, (2, 2), 1, values=near)

    def test_refusals(self):
        refuses_each(self, is_formula, ((1, 1), 2, TRUE), [
            (0, InvalidNumber, NO_SIGNATURES), (1, InvalidNumber, NO_FREE)])
        for call in (depth_of, nodes_of, used, core, opposite):
            refuses_each(self, call, ((1, 1), 2, ("none", 1)), [
                (0, InvalidNumber, NO_SIGNATURES), (1, InvalidNumber, NO_FREE), (2, InvalidFormula, NO_FORMULAS)])


class Counted(unittest.TestCase):
    def test_depth(self):
        self.assertEqual(depth_of((0, 0), 0, TRUE), 0)
        self.assertEqual(depth_of((0, 0), 0, ("not", ("and", some(2, TRUE), ("all", TRUE)))), 2)
        self.assertEqual(depth_of((0, 0), 1, ("or", TRUE, some(3, TRUE))), 3)
        self.assertEqual(depth_of((0, 0), 3, ("all", ("none", 3))), 1)

    def test_nodes(self):
        self.assertEqual(nodes_of((1, 1), 1, ("and", ("mark", 0, 0), ("some", ("or", TRUE, ("not", TRUE))))), 7)
        self.assertEqual(nodes_of((0, 0), 0, within(100)), 100)

    def test_used(self):
        self.assertEqual(used((1, 1), 4, TRUE), ())
        self.assertEqual(used((1, 1), 4, ("and", ("link", 0, 3, 1), ("same", 1, 3))), (1, 3))
        self.assertEqual(used((1, 1), 2, ("some", ("and", ("same", 2, 1), ("mark", 0, 2)))), (1,))
        self.assertEqual(used((1, 1), 0, ("some", ("mark", 0, 0))), ())
        self.assertEqual(used((1, 1), 1, ("some", ("mark", 0, 0))), (0,))
        self.assertEqual(used((2, 0), 3, ("or", ("none", 2), ("mark", 1, 0))), (0, 2))

    def test_members_of_unused_variables_do_not_matter(self):
        chooser = Chooser(3)
        for _ in range(60):
            structure, free = chooser.structure(2, (1, 1)), 1 + chooser.number(3)
            formula = chooser.formula((1, 1), free, min(2, 4 - free), 9)
            named = used((1, 1), free, formula)
            for row in rows_with(structure, free):
                other = tuple(member if i in named else -1 for i, member in enumerate(row))
                self.assertEqual(plainly_holds(structure, formula, row), plainly_holds(structure, formula, other))


def plain_core(formula):
    """The core, by the words of the document alone."""
    word, parts = formula[0], formula[1:]
    if word == "not":
        return ("not", plain_core(parts[0]))
    if word == "and":
        return ("and", plain_core(parts[0]), plain_core(parts[1]))
    if word == "some":
        return ("some", plain_core(parts[0]))
    if word == "or":
        return ("not", ("and", ("not", plain_core(parts[0])), ("not", plain_core(parts[1]))))
    if word == "all":
        return ("not", ("some", ("not", plain_core(parts[0]))))
    return formula


def plain_opposite(formula):
    """The pair of d and k, by the words of the document alone."""
    word = formula[0]
    if word not in ("not", "and", "or", "some", "all"):
        return ("not", formula), formula
    parts = [plain_opposite(part) for part in formula[1:]]
    if word == "not":
        return parts[0][1], parts[0][0]
    turned = {"and": "or", "or": "and", "some": "all", "all": "some"}[word]
    return (turned, *[d for d, _ in parts]), (word, *[k for _, k in parts])


class Made(unittest.TestCase):
    def samples(self, free):
        chooser = Chooser(4 + free)
        return [chooser.formula((1, 1), free, min(2, 4 - free), 2 + chooser.number(14)) for _ in range(60)]

    def test_core(self):
        chooser = Chooser(5)
        for free in range(4):
            for formula in self.samples(free):
                found = core((1, 1), free, formula)
                self.assertEqual(found, plain_core(formula))
                self.assertEqual(depth_of((1, 1), free, found), depth_of((1, 1), free, formula))
                structure = chooser.structure(chooser.number(3), (1, 1))
                row = chooser.row(structure, free)
                self.assertEqual(plainly_holds(structure, found, row), plainly_holds(structure, formula, row))

    def test_opposite(self):
        chooser = Chooser(6)
        for free in range(4):
            for formula in self.samples(free):
                found = opposite((1, 1), free, formula)
                self.assertEqual(found, plain_opposite(formula)[0])
                self.assertEqual(depth_of((1, 1), free, found), depth_of((1, 1), free, formula))
                structure = chooser.structure(chooser.number(3), (1, 1))
                row = chooser.row(structure, free)
                self.assertNotEqual(plainly_holds(structure, found, row), plainly_holds(structure, formula, row))

    def test_too_many_of_core(self):
        # An or of two atoms becomes six nodes, an all of an atom four.
        right = nested(lambda value: ("and", value, value), 8, ("or", TRUE, TRUE))
        self.assertEqual(nodes_of((0, 0), 0, core((0, 0), 0, right)), 255 + 256 * 6)
        just, more = (("and", of_nodes(nodes), ("or", TRUE, TRUE)) for nodes in (1993, 1994))
        self.assertEqual(nodes_of((0, 0), 0, core((0, 0), 0, just)), 2000)
        refuses(self, TooMany, 2000, core, (0, 0), 0, more)
        self.assertEqual(core((0, 0), 0, ("all", within(97))), ("not", ("some", ("not", within(97)))))
        refuses(self, TooMany, 2000, core, (0, 0), 0, ("all", within(98)))
        refuses(self, TooMany, 2000, core, (0, 0), 0, within(100, "or"))
        refuses(self, InvalidFormula, None, core, (0, 0), 0, within(101, "or"))

    def test_too_many_of_opposite(self):
        # Each atom gets a node more, and each "not" is left out.
        self.assertEqual(nodes_of((0, 0), 0, opposite((0, 0), 0, of_nodes(1333))), 2000)
        refuses(self, TooMany, 2000, opposite, (0, 0), 0, of_nodes(1335))
        self.assertEqual(opposite((0, 0), 0, within(100)), TRUE)
        self.assertEqual(opposite((0, 0), 0, within(99)), ("not", TRUE))
        self.assertEqual(nodes_of((0, 0), 0, opposite((0, 0), 0, within(99, "and"))), 197 + 99)
        refuses(self, TooMany, 2000, opposite, (0, 0), 0, within(100, "and"))
        refuses(self, InvalidFormula, None, opposite, (0, 0), 0, within(101, "and"))

    def test_led(self):
        chooser = Chooser(7)
        for free in range(4):
            for formula in self.samples(free)[:25]:
                structure = chooser.structure(2, (1, 1))
                row = chooser.row(structure, free)
                for order in permutations(range(free)):
                    found = led((1, 1), free, formula, order)
                    exchanged = tuple(row[order[i]] for i in range(free))
                    self.assertEqual(plainly_holds(structure, found, row), plainly_holds(structure, formula, exchanged))
        self.assertEqual(led((1, 1), 2, ("all", ("link", 0, 2, 1)), (1, 0)), ("all", ("link", 0, 2, 0)))
        self.assertEqual(led((2, 1), 2, ("mark", 1, 0), (1, 0)), ("mark", 1, 1))
        self.assertEqual(led((0, 0), 0, TRUE, ()), TRUE)

    def test_led_refusals(self):
        orders = [*WRONG, (), (0,), (0, 0), (0, 2), (1, 0, 2), (True, 0), (1, False), [1, 0], (-1, 0), (0, BIG)]
        refuses_each(self, led, ((1, 1), 2, ("none", 1), (1, 0)), [
            (0, InvalidNumber, NO_SIGNATURES), (1, InvalidNumber, NO_FREE), (2, InvalidFormula, NO_FORMULAS),
            (3, InvalidOperation, orders)])
        refuses(self, InvalidOperation, None, led, (0, 0), 0, TRUE, (0,))


class Changed(unittest.TestCase):
    def plainly_changed(self, marks, links, formula):
        word = formula[0]
        if word == "mark":
            x = formula[2]
            return ("and", self.put(marks[formula[1]], (x,)), ("not", ("none", x)))
        if word == "link":
            x, y = formula[2:]
            told = self.put(links[formula[1]], (x, y))
            return ("and", ("and", told, ("not", ("none", x))), ("not", ("none", y)))
        if word in ("not", "and", "or", "some", "all"):
            return (word, *[self.plainly_changed(marks, links, part) for part in formula[1:]])
        return formula

    def put(self, formula, names):
        word = formula[0]
        if word in ("not", "and", "or"):
            return (word, *[self.put(part, names) for part in formula[1:]])
        first = {"true": 1, "none": 1, "same": 1, "mark": 2, "link": 2}[word]
        return formula[:first] + tuple(names[number] for number in formula[first:])

    def test_put_in(self):
        chooser = Chooser(8)
        for _ in range(80):
            marks = tuple(chooser.formula((1, 1), 1, 0, 5) for _ in range(chooser.number(3)))
            links = tuple(chooser.formula((1, 1), 2, 0, 5) for _ in range(chooser.number(3)))
            free = chooser.number(4)
            formula = chooser.formula((len(marks), len(links)), free, min(2, 4 - free), 12)
            found = changed((1, 1), marks, links, free, formula)
            self.assertEqual(found, self.plainly_changed(marks, links, formula))
            self.assertIs(is_formula((1, 1), free, found), True)

    def test_variables_within_quantifiers(self):
        found = changed((2, 1), (("link", 0, 0, 0),), (), 1, ("some", ("mark", 0, 1)))
        self.assertEqual(found, ("some", ("and", ("link", 0, 1, 1), ("not", ("none", 1)))))

    def test_too_many(self):
        told = of_nodes(1997)
        self.assertEqual(nodes_of((0, 0), 1, changed((0, 0), (told,), (), 1, ("mark", 0, 0))), 2000)
        refuses(self, TooMany, 2000, changed, (0, 0), (of_nodes(1998),), (), 1, ("mark", 0, 0))
        self.assertEqual(nodes_of((0, 0), 1, changed((0, 0), (), (of_nodes(1994),), 1, ("link", 0, 0, 0))), 2000)
        refuses(self, TooMany, 2000, changed, (0, 0), (), (of_nodes(1995),), 1, ("link", 0, 0, 0))
        refuses(self, TooMany, 2000, changed, (0, 0), (told,), (), 1, of_nodes(1999, ("mark", 0, 0)))
        self.assertEqual(changed((0, 0), (within(99),), (), 1, ("mark", 0, 0))[1], within(99))
        refuses(self, TooMany, 2000, changed, (0, 0), (within(100),), (), 1, ("mark", 0, 0))
        refuses(self, InvalidFormula, None, changed, (0, 0), (told,), (), 1, ("mark", 1, 0))

    def test_refusals(self):
        deep = ("some", TRUE)
        marks = [*[x for x in WRONG if x != ()], (TRUE,) * 3, (deep,), (("none", 1),), [TRUE], (TRUE, ("mark", 1, 0)), TRUE,
                 (of_nodes(2001),)]
        links = [*[x for x in WRONG if x != ()], (TRUE,) * 3, (deep,), (("none", 2),), [TRUE], (("link", 1, 0, 0),), TRUE]
        refuses_each(self, changed, ((1, 1), (TRUE,), (("none", 1), TRUE), 2, ("link", 1, 0, 1)), [
            (0, InvalidNumber, NO_SIGNATURES), (1, InvalidOperation, marks), (2, InvalidOperation, links),
            (3, InvalidNumber, NO_FREE), (4, InvalidFormula, [*NO_FORMULAS, ("mark", 1, 0), ("link", 2, 0, 0), ("none", 2)])])


if __name__ == "__main__":
    unittest.main()
