"""Stage 21: texts of structures, readers and formulas."""

import unittest

from tests.bending import exact
from tests.helpers import NO_FORMULAS, NO_NUMBERS, NO_READERS, NO_SIGNATURES, NO_STRUCTURES, WRONG, Chooser, nested, of_nodes
from tests.helpers import refuses, refuses_each, some_readers, without_some
from wholebyparts.errors import InvalidFormula, InvalidNumber, InvalidReader, InvalidStructure, InvalidText, ParseError
from wholebyparts.part.structures import Structure
from wholebyparts.read.readers import Reader
from wholebyparts.say.formulas import is_formula, nodes_of
from wholebyparts.text.texts import MOST_TEXT, formula_text, read_formula, read_reader, read_structure, reader_text, structure_text

NO_TEXTS = [*without_some(WRONG, str), "caf\u00e9\n", "a\tb\n", "a\rb\n", "\x00\n", "a\x7fb\n", "\u0661\n", "x" * 200001, "\n" * 200001,
            b"true\n", ["true\n"]]


def plain_spot(text, fits):
    """The index of the first line behind which no text can go on; if none, and the text is not whole, of how many lines."""
    lines = text.split("\n")[:-1]
    for index in range(len(lines)):
        if not fits(lines[:index + 1]):
            return index
    return len(lines)


def is_number(word, many):
    return word in [str(number) for number in range(many)]


def ascends(numbers):
    return all(one < other for one, other in zip(numbers, numbers[1:]))


def fits_structure(lines):
    """Whether some text of a structure begins with the lines."""
    first = lines[0].split(" ")
    if len(first) != 4 or first[0] != "structure" or not is_number(first[1], 61) or not all(is_number(x, 3) for x in first[2:]):
        return False
    size, marks, links = [int(word) for word in first[1:]]
    if len(lines) > 1 + marks + links:
        return False
    for index, line in enumerate(lines[1:]):
        words = line.split(" ")
        if words[0] != ("mark" if index < marks else "link"):
            return False
        if index < marks:
            if not all(is_number(word, size) for word in words[1:]) or not ascends([int(word) for word in words[1:]]):
                return False
        else:
            pairs = [word.split("-") for word in words[1:]]
            if not all(len(pair) == 2 and all(is_number(x, size) for x in pair) for pair in pairs):
                return False
            if not ascends([(int(a), int(b)) for a, b in pairs]):
                return False
    return True


def fits_reader(lines):
    """Whether some text of a reader begins with the lines."""
    first = lines[0].split(" ")
    if len(first) != 3 or first[0] != "reader" or not is_number(first[1], 65) or not is_number(first[2], 513) or "0" in first[1:]:
        return False
    letters, states = [int(word) for word in first[1:]]
    if len(lines) > 2 + states:
        return False
    for index, line in enumerate(lines[1:]):
        words = line.split(" ")
        if not all(is_number(word, states) for word in words[1:]):
            return False
        if index < states:
            if words[0] != "step" or len(words) != letters + 1:
                return False
        elif words[0] != "accepting" or not ascends([int(word) for word in words[1:]]):
            return False
    return True


def fits_formula(signature, free, words):
    """Whether some text of a formula begins with the words: all that is begun is closed as shortly as can be."""
    waiting = [(free, 1)]
    rest = []
    closed = []
    for word in words:
        if rest:
            if not is_number(word, rest.pop(0)):
                return None
            closed.append(word)
            continue
        if not waiting:
            return None
        bound, within = waiting.pop()
        many = {"v": bound, "m": signature[0], "l": signature[1]}
        atoms = {"true": "", "none": "v", "mark": "mv", "link": "lvv", "same": "vv"}
        parts = {"not": 1, "and": 2, "or": 2, "some": 1, "all": 1}
        closed.append(word)
        if word in atoms:
            rest = [many[sign] for sign in atoms[word]]
            if 0 in rest:
                return None
        elif word in parts:
            waiting += [(bound + (word in ("some", "all")), within + 1)] * parts[word]
        else:
            return None
    is_whole = not rest and not waiting
    closed += ["0"] * len(rest) + ["true"] * len(waiting)
    return is_whole if is_formula(signature, free, plain_formula(closed)) else None


def plain_formula(words):
    """The nested tuple that whole words tell."""
    parts = {"not": 1, "and": 2, "or": 2, "some": 1, "all": 1}
    numbers = {"true": 0, "none": 1, "mark": 2, "link": 3, "same": 2}
    stack = []
    for word in words[::-1]:
        if word in parts:
            stack.append((word, *[stack.pop() for _ in range(parts[word])]))
        elif word in numbers:
            stack.append((word, *[stack.pop() for _ in range(numbers[word])]))
        else:
            stack.append(int(word))
    return stack[0]


def plain_formula_spot(signature, free, text):
    """What ParseError keeps; "read" if the text is one."""
    if text.count("\n") != 1 or text[-1] != "\n":
        return None
    words = text[:-1].split(" ")
    for index in range(len(words)):
        if fits_formula(signature, free, words[:index + 1]) is None:
            return index
    return "read" if fits_formula(signature, free, words) else len(words)


def bent_texts(text):
    """The text with a line or a word left out, doubled or exchanged, cut at each place, with a sign changed, and so on."""
    found = [text + "\n", text[:-1], "\n" + text, text + " ", " " + text, text * 2, "", "\n", text.replace("\n", " \n"), text.replace("\n", "\n\n")]
    found += [text.replace(" ", "  "), text.replace(" ", " 0"), text.replace(" ", " -"), text.replace(" ", ""), text.upper()]
    for sign in ("\n", " "):
        pieces = text.split(sign)
        for place, piece in enumerate(pieces):
            found.append(sign.join(pieces[:place] + pieces[place + 1:]))
            found.append(sign.join(pieces[:place] + [piece, piece] + pieces[place + 1:]))
            found.append(sign.join(pieces[:place] + pieces[place + 1:place + 2] + [piece] + pieces[place + 2:]))
    for place in range(len(text)):
        found.append(text[:place])
        for sign in "019 \n-x":
            found.append(text[:place] + sign + text[place + 1:])
            found.append(text[:place] + sign + text[place:])
    return found


def drawn_structures():
    chooser = Chooser(221)
    found = [Structure(0, (), ()), Structure(0, ((), ()), ((), ())), Structure(1, ((0,),), (((0, 0),),)), chooser.structure(60, (2, 2))]
    return found + [chooser.structure(chooser.number(13), (chooser.number(3), chooser.number(3))) for _ in range(60)]


def drawn_formulas():
    """Signatures, numbers of free variables, formulas."""
    chooser = Chooser(222)
    found = []
    for _ in range(100):
        signature, free = (chooser.number(3), chooser.number(3)), chooser.number(5)
        formula = chooser.formula(signature, free, chooser.number(min(3, 4 - free) + 1), 1 + chooser.number(14))
        found.append((signature, free, formula))
    return found


class Structures(unittest.TestCase):
    def test_back(self):
        for structure in drawn_structures():
            text = structure_text(structure)
            self.assertTrue(read_structure(text) == structure)
            self.assertTrue(fits_structure(text.split("\n")[:-1]))
        self.assertEqual(structure_text(Structure(0, (), ())), "structure 0 0 0\n")
        self.assertEqual(structure_text(Structure(12, ((0, 11), ()), (((10, 2), (11, 11)),))), "structure 12 2 1\nmark 0 11\nmark\nlink 10-2 11-11\n")
        self.assertEqual(structure_text(Structure(1, (), ((), ()))), "structure 1 0 2\nlink\nlink\n")

    def test_bent(self):
        seen = {True: 0, False: 0}
        for structure in drawn_structures()[:3] + [one for one in drawn_structures()[4:] if one.size < 5][:12]:
            for text in bent_texts(structure_text(structure)):
                self.check(read_structure, structure_text, fits_structure, text, seen)
        self.assertGreater(min(seen.values()), 20)

    def check(self, read, write, fits, text, seen):
        """The text is read, and written again, or refused at the plain spot."""
        try:
            told = read(text)
        except ParseError as error:
            seen[False] += 1
            self.assertTrue(exact(error.spot, plain_spot(text, fits)), repr(text))
            return
        seen[True] += 1
        self.assertEqual(write(told), text)

    def test_spots(self):
        for text, spot in (
            ("", 0), ("\n", 0), ("structure 2 1 0", 0), ("structure 2 1 0\n", 1), ("structure 2 1 0\nmark", 1), ("structure 2 1 0\nmark\nx", 2),
            ("structure 2 1 0\nmark\n\n", 2), ("structure 2 1 0\nmark 1 0\n", 1), ("structure 2 1 0\nmark 2\n", 1), ("structure 2 1 0\nlink\n", 1),
            ("structure 61 0 0\n", 0), ("structure 2 3 0\n", 0), ("structure 2 0 3\n", 0), ("structure 02 0 0\n", 0), ("structure 2 0\n", 0),
            ("structure 2 0 1\nlink 0-1 0-0\n", 1), ("structure 2 0 1\nlink 0-1 0-1\n", 1), ("structure 2 0 1\nlink 0-2\n", 1), ("structure 2 0 1\nlink 0\n", 1),
            ("structure 2 0 1\nlink 0-1-1\n", 1), ("structure 2 0 1\nlink 0--1\n", 1), ("structure 2 0 1\nlink -1\n", 1), ("structure 2 0 1\nlink \n", 1),
            ("structure 2 1 1\nmark\nmark\n", 2), ("x\nstructure 0 0 0\n", 0), ("structure 0 0 0\nstructure 0 0 0\n", 1), ("structure 1 2 0\nmark 0\n", 2),
        ):
            refuses(self, ParseError, spot, read_structure, text)

    def test_refusals(self):
        refuses_each(self, structure_text, (Structure(1, (), ()),), [(0, InvalidStructure, NO_STRUCTURES)])
        refuses_each(self, read_structure, ("structure 0 0 0\n",), [(0, InvalidText, NO_TEXTS)])


class Readers(unittest.TestCase):
    def drawn(self):
        large = Reader(64, tuple(tuple((state * 7 + letter) % 512 for letter in range(64)) for state in range(512)), tuple(range(512)))
        return [Reader(1, ((0,),), ()), Reader(1, ((0,),), (0,)), large, *some_readers(223, 60, 5, 13)]

    def test_back(self):
        for reader in self.drawn():
            text = reader_text(reader)
            self.assertTrue(read_reader(text) == reader)
            self.assertLessEqual(len(text), MOST_TEXT)
        self.assertEqual(reader_text(Reader(1, ((0,),), ())), "reader 1 1\nstep 0\naccepting\n")
        self.assertEqual(reader_text(Reader(2, ((1, 0), (1, 1)), (0, 1))), "reader 2 2\nstep 1 0\nstep 1 1\naccepting 0 1\n")

    def test_bent(self):
        seen = {True: 0, False: 0}
        few = [reader for reader in self.drawn() if reader.states < 5][:12]
        for reader in few:
            for text in bent_texts(reader_text(reader)):
                Structures.check(self, read_reader, reader_text, fits_reader, text, seen)
        self.assertGreater(min(seen.values()), 20)

    def test_spots(self):
        for text, spot in (
            ("", 0), ("\n", 0), ("reader 0 1\n", 0), ("reader 1 0\n", 0), ("reader 65 1\n", 0), ("reader 1 513\n", 0), ("reader 1\n", 0),
            ("reader 1 1\n", 1), ("reader 1 1\nstep 0\n", 2), ("reader 1 1\nstep 1\n", 1), ("reader 1 1\nstep\n", 1), ("reader 1 1\nstep 0 0\n", 1),
            ("reader 1 1\naccepting\n", 1), ("reader 1 1\nstep 0\naccepting", 2), ("reader 1 1\nstep 0\nstep 0\n", 2),
            ("reader 1 1\nstep 0\naccepting 1\n", 2), ("reader 1 1\nstep 0\naccepting 0 0\n", 2), ("reader 1 1\nstep 0\naccepting 0\n\n", 3),
            ("reader 1 1\nstep 0\naccepting 0\nx", 3), ("reader 1 2\nstep 0\nstep 1\naccepting 1 0\n", 3), ("reader 1 1 1\n", 0),
        ):
            refuses(self, ParseError, spot, read_reader, text)

    def test_refusals(self):
        refuses_each(self, reader_text, (Reader(1, ((0,),), ()),), [(0, InvalidReader, NO_READERS)])
        refuses_each(self, read_reader, ("reader 1 1\nstep 0\naccepting\n",), [(0, InvalidText, NO_TEXTS)])


class Formulas(unittest.TestCase):
    def test_back(self):
        for signature, free, formula in drawn_formulas():
            text = formula_text(signature, free, formula)
            self.assertTrue(exact(read_formula(signature, free, text), formula))
            self.assertTrue(exact(plain_formula(text[:-1].split(" ")), formula))
        self.assertEqual(formula_text((1, 2), 2, ("or", ("same", 1, 0), ("all", ("link", 1, 2, 0)))), "or same 1 0 all link 1 2 0\n")

    def test_bent(self):
        seen = {True: 0, False: 0}
        for signature, free, formula in drawn_formulas():
            if len(formula_text(signature, free, formula)) < 40:
                for text in bent_texts(formula_text(signature, free, formula)):
                    self.check(signature, free, text, seen)
        self.assertGreater(min(seen.values()), 20)

    def check(self, signature, free, text, seen):
        wanted = plain_formula_spot(signature, free, text)
        try:
            told = read_formula(signature, free, text)
        except ParseError as error:
            seen[False] += 1
            self.assertTrue(exact(error.spot, wanted), repr((signature, free, text, wanted)))
            return
        seen[True] += 1
        self.assertEqual(wanted, "read", repr(text))
        self.assertEqual(formula_text(signature, free, told), text)

    def test_words_of_all_kinds(self):
        # Words in any sequence: mostly wrong at once, or much too early at an end.
        chooser = Chooser(224)
        words = ["true", "none", "mark", "link", "same", "not", "and", "or", "some", "all", "0", "1", "2", "3", "4", "00", "", "-1", "x", "True"]
        seen = {True: 0, False: 0}
        for _ in range(4000):
            many = 1 + chooser.number(7)
            text = " ".join(chooser.one_of(words[:12] if chooser.number(3) else words) for _ in range(many)) + "\n"
            self.check((chooser.number(3), chooser.number(3)), chooser.number(5), text, seen)
        self.assertGreater(min(seen.values()), 20)

    def test_no_variables(self):
        for word in ("none", "mark", "link", "same"):
            refuses(self, ParseError, 0, read_formula, (2, 2), 0, f"{word} 0 0 0\n")
            refuses(self, ParseError, 1, read_formula, (2, 2), 0, f"not {word}\n")
        refuses(self, ParseError, 0, read_formula, (0, 2), 1, "mark 0 0\n")
        refuses(self, ParseError, 0, read_formula, (2, 0), 1, "link 0 0 0\n")
        refuses(self, ParseError, 1, read_formula, (1, 1), 1, "mark\n")
        refuses(self, ParseError, 2, read_formula, (1, 1), 1, "mark 0\n")
        refuses(self, ParseError, 2, read_formula, (1, 1), 1, "mark 0 1\n")

    def test_depth(self):
        for free in range(5):
            most = min(3, 4 - free)
            self.assertEqual(nodes_of((0, 0), free, read_formula((0, 0), free, "some " * most + "true\n")), most + 1)
            refuses(self, ParseError, most, read_formula, (0, 0), free, "some " * (most + 1) + "true\n")
            refuses(self, ParseError, most + 1, read_formula, (0, 0), free, "not " + "all " * (most + 1) + "true\n")

    def test_within(self):
        self.assertTrue(exact(read_formula((0, 0), 0, "not " * 99 + "true\n"), nested(lambda value: ("not", value), 99, ("true",))))
        refuses(self, ParseError, 99, read_formula, (0, 0), 0, "not " * 100 + "true\n")
        refuses(self, ParseError, 99, read_formula, (0, 0), 0, "and " * 99 + "not\n")
        refuses(self, ParseError, 99, read_formula, (0, 0), 0, "and " * 99 + "and\n")
        refuses(self, ParseError, 99, read_formula, (0, 0), 0, "not " * 99 + "\n")

    def test_nodes(self):
        for nodes in (1999, 2000):
            text = formula_text((0, 0), 0, of_nodes(nodes))
            self.assertTrue(exact(read_formula((0, 0), 0, text), of_nodes(nodes)))
        # At the first word with which there are too many nodes to come: long ahead of the end.
        words = formula_text((0, 0), 0, of_nodes(1999))[:-1].split(" ")
        ahead = len(words) - 1
        for more, spot in (("not true", None), ("and true true", ahead), ("not not true", ahead + 1), ("not and true true", ahead + 1)):
            text = " ".join([*words[:-1], more]) + "\n"
            if spot is None:
                self.assertEqual(nodes_of((0, 0), 0, read_formula((0, 0), 0, text)), 2000)
            else:
                refuses(self, ParseError, spot, read_formula, (0, 0), 0, text)
        wide = nested(lambda value: f"and {value} {value}", 9, "and true true")
        self.assertEqual(wide.count("and"), 1023)
        spot = wide.split(" ").index("true")
        self.assertEqual(plain_formula_spot((0, 0), 0, wide + "\n"), spot_of_nodes(wide))
        refuses(self, ParseError, spot_of_nodes(wide), read_formula, (0, 0), 0, wide + "\n")
        self.assertLess(spot, spot_of_nodes(wide))

    def test_newlines(self):
        for text in ("", "true", "true\n\n", "\ntrue\n", "tr\nue\n", "true\ntrue", "x", "\n\n", "not\n true\n"):
            refuses(self, ParseError, None, read_formula, (0, 0), 0, text)
        refuses(self, ParseError, 0, read_formula, (0, 0), 0, "\n")
        refuses(self, ParseError, 1, read_formula, (0, 0), 0, "true \n")
        refuses(self, ParseError, 0, read_formula, (0, 0), 0, " true\n")
        refuses(self, ParseError, 1, read_formula, (0, 0), 0, "not  true\n")
        refuses(self, ParseError, 1, read_formula, (0, 0), 0, "true true\n")
        refuses(self, ParseError, 1, read_formula, (0, 0), 0, "not\n")

    def test_refusals(self):
        wrong = [(0, InvalidNumber, NO_SIGNATURES), (1, InvalidNumber, [*NO_NUMBERS, 5])]
        refuses_each(self, formula_text, ((1, 0), 0, ("true",)), [*wrong, (2, InvalidFormula, [*NO_FORMULAS, ("mark", 0, 0)])])
        refuses_each(self, read_formula, ((1, 0), 0, "true\n"), [*wrong, (2, InvalidText, NO_TEXTS)])


def spot_of_nodes(text):
    """The index of the first word with which the nodes that are begun, and those that must come, are more than 2,000."""
    nodes = 1
    for index, word in enumerate(text.split(" ")):
        nodes += {"and": 2, "true": 0}[word]
        if nodes > 2000:
            return index
    return None


class Long(unittest.TestCase):
    def test_most_text(self):
        self.assertEqual(MOST_TEXT, 200000)
        many = "x" * 200000
        refuses(self, ParseError, 0, read_structure, many)
        refuses(self, ParseError, 0, read_reader, "\n" * 200000)
        refuses(self, ParseError, None, read_formula, (0, 0), 0, many)
        refuses(self, ParseError, 0, read_formula, (0, 0), 0, many[:-1] + "\n")
        refuses(self, ParseError, 0, read_structure, "structure " + "9" * 5000 + " 0 0\n")
        refuses(self, ParseError, 1, read_formula, (0, 0), 1, "none " + "0" * 5000 + "\n")
        for call in (read_structure, read_reader):
            refuses(self, InvalidText, None, call, many + "x")
        refuses(self, InvalidText, None, read_formula, (0, 0), 0, many + "\n")
        refuses(self, ParseError, 2, read_structure, "structure 1 1 0\nmark\n" + "\n" * 199000)


if __name__ == "__main__":
    unittest.main()
