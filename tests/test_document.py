"""The whole document: what every function of the interface takes, refuses first, gives out, and leaves as it is."""

import importlib
import inspect
import unittest

from tests.helpers import BIG, WRONG, is_equal, refuses_each
from wholebyparts import errors
from wholebyparts.errors import InvalidClaim, InvalidFormula, InvalidKind, InvalidNumber, InvalidOperation, InvalidParts
from wholebyparts.errors import InvalidReader, InvalidRow, InvalidRule, InvalidShape, InvalidStructure, InvalidText, InvalidWord
from wholebyparts.house.desk import Desk
from wholebyparts.kinds.kinds import kind
from wholebyparts.part.structures import Structure
from wholebyparts.read.readers import Reader
from wholebyparts.shape.rules import some_rule
from wholebyparts.shape.shapes import Shape, product_shape, sum_shape

LINE = Structure(2, ((0,),), (((0, 1),),))
RING = Structure(3, ((0, 1),), (((0, 1), (1, 2), (2, 0)),))
MARKED, BARE = Structure(1, ((0,),), ()), Structure(1, ((),), ())
SUM, STOCK = sum_shape((1, 0)), (MARKED, BARE)
WEB = sum_shape((1, 1))
SOME, EACH, TRUE = ("some", ("mark", 0, 0)), ("all", ("mark", 0, 0)), ("true",)
LOOP = ("link", 0, 0, 0)
EVEN, ENDS = Reader(2, ((0, 1), (1, 0)), (0,)), Reader(2, ((0, 1), (0, 1)), (1,))
ONCE = ("some", ("and", ("single", 0), ("letter", 1, 0)))
RULE = some_rule((1, 1), 1, LOOP)
KIND = kind(LINE, (0,), 1)
BOOK = (((((0,), (0,))),), (((), ()),))
CASES = (SOME, ("not", SOME))
CLAIM = ("taken alike", EVEN, ENDS)
SIGNS = (1, 1)

# What is raised for a wrong argument: by the letter that the tables below have for the parameter. A parameter with a
# minus accepts every value, or is looked at elsewhere.
KINDS = {
    "S": InvalidStructure, "R": InvalidRow, "N": InvalidNumber, "F": InvalidFormula, "K": InvalidKind, "D": InvalidReader, "W": InvalidWord,
    "U": InvalidRule, "H": InvalidShape, "P": InvalidParts, "O": InvalidOperation, "C": InvalidClaim, "T": InvalidText,
}
# For each module, in the sequence of the document: its constants, and for each function its parameters, the letters of
# these, and good arguments.
INTERFACE = {
    "wholebyparts.part.structures": ({"MOST_SIZE": 60, "MOST_RELATIONS": 2, "MOST_TRIED": 8}, [
        ("structure_fault", "size marks links", "---", (2, (), ())), ("Structure", "size marks links", "SSS", (2, ((0,),), ())),
        ("is_map", "one other value", "SS-", (LINE, LINE, (0, 1))), ("map_between", "one other", "SS", (LINE, LINE)),
        ("renamed", "structure names", "SO", (LINE, (1, 0))), ("induced", "structure lot", "SO", (LINE, (0,))),
        ("without", "structure mark", "SN", (LINE, 0)), ("turned", "structure link", "SN", (LINE, 0)),
        ("complemented", "structure link", "SN", (LINE, 0)),
    ]),
    "wholebyparts.say.formulas": ({"MOST_NODES": 2000, "MOST_DEPTH": 3}, [
        ("is_formula", "signature free value", "NN-", (SIGNS, 1, LOOP)), ("depth_of", "signature free formula", "NNF", (SIGNS, 1, LOOP)),
        ("nodes_of", "signature free formula", "NNF", (SIGNS, 1, LOOP)), ("used", "signature free formula", "NNF", (SIGNS, 1, LOOP)),
        ("core", "signature free formula", "NNF", (SIGNS, 1, LOOP)), ("opposite", "signature free formula", "NNF", (SIGNS, 1, LOOP)),
        ("led", "signature free formula order", "NNFO", (SIGNS, 2, LOOP, (1, 0))),
        ("changed", "signature marks links free formula", "NOONF", (SIGNS, (LOOP,), (), 1, ("mark", 0, 0))),
    ]),
    "wholebyparts.say.meaning": ({"MOST_TRIED": 50000}, [
        ("holds", "structure free formula row", "SNFR", (LINE, 1, LOOP, (0,))), ("rows_that", "structure free formula", "SNF", (LINE, 1, LOOP)),
        ("witness", "structure free formula row", "SNFR", (LINE, 1, ("some", ("link", 0, 0, 1)), (0,))),
        ("unlike_row", "structure free first second", "SNFF", (LINE, 1, LOOP, TRUE)),
        ("changed_structure", "structure marks links", "SFF", (LINE, (LOOP,), ())),
    ]),
    "wholebyparts.kinds.kinds": ({}, [
        ("atom", "structure row", "SR", (LINE, (0, 1))), ("kind", "structure row depth", "SRN", (LINE, (0,), 1)),
        ("is_kind", "signature places depth value", "NNN-", (SIGNS, 1, 1, KIND)), ("told", "signature places kind formula", "NNKF", (SIGNS, 1, KIND, LOOP)),
        ("cut", "signature places kind depth", "NNKN", (SIGNS, 1, KIND, 0)), ("left_out", "signature places kind place", "NNKN", (SIGNS, 1, KIND, 0)),
        ("same_kind", "one row other goal depth", "SRSRN", (LINE, (0,), RING, (1,), 1)),
    ]),
    "wholebyparts.kinds.parting": ({}, [
        ("formula_of", "signature places kind", "NNK", (SIGNS, 1, KIND)), ("parting_answer", "one row other goal depth", "SRSRN", (LINE, (0,), RING, (1,), 1)),
        ("is_parting_answer", "one row other goal depth value", "SRSRN-", (LINE, (0,), RING, (1,), 1, ("alike",))),
        ("least_depth", "one row other goal", "SRSR", (LINE, (0,), RING, (1,))),
    ]),
    "wholebyparts.kinds.games": ({}, [
        ("is_book", "one other value", "SS-", (LINE, RING, BOOK)), ("book_answer", "one row other goal depth", "SRSRN", (LINE, (0,), RING, (1,), 1)),
        ("is_book_answer", "one row other goal depth value", "SRSRN-", (LINE, (0,), RING, (1,), 1, ("book", BOOK))),
        ("reply", "one other levels rounds pair side element", "SS-NONN", (BARE, BARE, (((((0,), (0,))),), (((), ()),)), 1, ((), ()), 0, 0)),
        ("played", "one row other goal moves", "SRSRO", (LINE, (0,), RING, (1,), ((0, 1),))),
    ]),
    "wholebyparts.read.readers": ({"MOST_LETTERS": 64, "MOST_STATES": 512, "MOST_WORD": 2000}, [
        ("reader_fault", "letters steps accepting", "---", (1, ((0,),), ())), ("Reader", "letters steps accepting", "DDD", (1, ((0,),), (0,))),
        ("state_after", "reader word", "DW", (EVEN, (0, 1))), ("takes", "reader word", "DW", (EVEN, (0, 1))), ("met", "reader", "D", (EVEN,)),
        ("first_word", "reader", "D", (EVEN,)), ("word_count", "reader length", "DN", (EVEN, 5)), ("words", "reader length", "DN", (EVEN, 3)),
        ("after_times", "reader word times", "DWN", (EVEN, (1,), 7)),
    ]),
    "wholebyparts.read.making": ({}, [
        ("both", "one other", "DD", (EVEN, ENDS)), ("either", "one other", "DD", (EVEN, ENDS)), ("opposite", "reader", "D", (EVEN,)),
        ("least", "reader", "D", (EVEN,)), ("led", "reader table", "DO", (EVEN, (1, 1))), ("guessed", "reader lots", "DO", (EVEN, ((0, 1), ()))),
        ("behind", "one other", "DD", (EVEN, ENDS)), ("backward", "reader", "D", (ENDS,)), ("alike_answer", "one other", "DD", (EVEN, ENDS)),
        ("is_alike_answer", "one other value", "DD-", (EVEN, ENDS, ("word", ()))),
    ]),
    "wholebyparts.read.sets": ({"MOST_SET_LETTERS": 8, "MOST_HANDED": 200, "MOST_TOLD": 2000, "MOST_AT_ONCE": 6}, [
        ("is_set_formula", "letters free value", "NN-", (2, 0, ONCE)), ("holds_at", "letters word sets formula", "NWOF", (2, (0, 1), (), ONCE)),
        ("set_reader", "letters formula", "NF", (2, ONCE)), ("set_formula", "reader", "D", (EVEN,)), ("is_set_formula_of", "reader value", "D-", (EVEN, ONCE)),
    ]),
    "wholebyparts.read.counts": ({}, [
        ("counts_of", "letters word", "NW", (2, (0, 1))), ("order_answer", "reader", "D", (EVEN,)), ("is_order_answer", "reader value", "D-", (EVEN, ("free",))),
        ("turns", "reader", "D", (EVEN,)), ("takes_counts", "reader counts", "DO", (EVEN, (1, 2))), ("lessened", "reader counts", "DO", (EVEN, (1, 2))),
        ("repeat_answer", "reader word", "DW", (EVEN, (1,))), ("takes_times", "reader word times", "DWN", (EVEN, (1,), 5)),
    ]),
    "wholebyparts.shape.rules": ({"MOST_TESTS": 3, "MOST_STATES": 12}, [
        ("is_rule", "signature places value", "NN-", (SIGNS, 1, RULE)), ("letter_of", "signature places rule structure row", "NNUSR", (SIGNS, 1, RULE, LINE, (0,))),
        ("rule_word", "signature places rule parts rows", "NNUPR", (SIGNS, 1, RULE, (LINE,), ((0,),))),
        ("does_hold", "signature places rule parts rows", "NNUPR", (SIGNS, 1, RULE, (LINE,), ((0,),))),
        ("all_rule", "signature places formula", "NNF", (SIGNS, 1, LOOP)), ("some_rule", "signature places formula", "NNF", (SIGNS, 1, LOOP)),
        ("odd_rule", "signature places formula", "NNF", (SIGNS, 1, LOOP)), ("first_rule", "signature places guard formula", "NNFF", (SIGNS, 1, LOOP, TRUE)),
        ("opposite_rule", "signature places rule", "NNU", (SIGNS, 1, RULE)), ("both_rules", "signature places one other", "NNUU", (SIGNS, 1, RULE, RULE)),
    ]),
    "wholebyparts.shape.shapes": ({}, [
        ("shape_fault", "signature domain marks links", "----", ((1, 0), SUM.domain, SUM.marks, ())),
        ("Shape", "signature domain marks links", "HHHH", ((1, 0), SUM.domain, SUM.marks, ())), ("product_shape", "signature", "N", (SIGNS,)),
        ("sum_shape", "signature", "N", (SIGNS,)), ("some_shape", "signature", "N", (SIGNS,)), ("ahead_shape", "signature link", "NN", (SIGNS, 0)),
        ("first_shape", "signature link", "NN", (SIGNS, 0)), ("opposite_link", "shape link", "HN", (WEB, 0)),
    ]),
    "wholebyparts.shape.wholes": ({}, [
        ("things", "shape parts", "HP", (WEB, (LINE, RING))), ("is_thing", "shape parts value", "HP-", (WEB, (LINE,), (0,))), ("whole", "shape parts", "HP", (WEB, (LINE, RING))),
        ("mark_holds", "shape parts mark thing", "HPNR", (WEB, (LINE,), 0, (0,))), ("link_holds", "shape parts link thing goal", "HPNRR", (WEB, (LINE,), 0, (0,), (1,))),
        ("holds_in", "shape parts formula", "HPF", (WEB, (LINE, RING), SOME)),
    ]),
    "wholebyparts.main.machine": ({}, [
        ("reader_of", "shape stock formula", "HPF", (SUM, STOCK, SOME)), ("answer", "shape stock formula word", "HPFW", (SUM, STOCK, SOME, (0, 1))),
        ("state_words", "shape stock formula", "HPF", (SUM, STOCK, SOME)), ("classes", "shape stock depth", "HPN", (SUM, STOCK, 1)),
    ]),
    "wholebyparts.main.asked": ({}, [
        ("always_answer", "shape stock formula", "HPF", (SUM, STOCK, SOME)), ("agree_answer", "shape stock first second", "HPFF", (SUM, STOCK, SOME, EACH)),
        ("some_word", "shape stock formula", "HPF", (SUM, STOCK, SOME)), ("how_many", "shape stock formula length", "HPFN", (SUM, STOCK, SOME, 5)),
    ]),
    "wholebyparts.main.exchange": ({}, [
        ("beginnings_answer", "shape stock formula one other", "HPFWW", (SUM, STOCK, SOME, (0,), (1,))),
        ("is_beginnings_answer", "shape stock formula one other value", "HPFWW-", (SUM, STOCK, SOME, (0,), (1,), ("rest", ()))),
        ("middles_answer", "shape stock formula one other", "HPFWW", (SUM, STOCK, SOME, (0,), (1,))),
        ("is_middles_answer", "shape stock formula one other value", "HPFWW-", (SUM, STOCK, SOME, (0,), (1,), ("around", (), ()))),
        ("beginnings_number", "shape stock formula", "HPF", (SUM, STOCK, SOME)), ("middles_number", "shape stock formula", "HPF", (SUM, STOCK, SOME)),
        ("beginnings", "shape stock formula", "HPF", (SUM, STOCK, SOME)), ("middles", "shape stock formula", "HPF", (SUM, STOCK, SOME)),
        ("map_of", "shape stock formula word", "HPFW", (SUM, STOCK, SOME, (0,))), ("multiplied", "shape stock formula one other", "HPFWW", (SUM, STOCK, SOME, (0,), (1,))),
    ]),
    "wholebyparts.main.reduction": ({"MOST_FORMULAS": 64}, [
        ("reduction_of", "shape formula", "HF", (SUM, SOME)), ("set_reduction_of", "shape formula", "HF", (SUM, SOME)),
        ("is_reduction", "shape stock formula value", "HPF-", (SUM, STOCK, SOME, (CASES, EVEN))),
        ("is_set_reduction", "shape stock formula value", "HPF-", (SUM, STOCK, SOME, (CASES, ONCE))),
        ("reduced_word", "signature formulas parts", "NFP", ((1, 0), CASES, STOCK)),
    ]),
    "wholebyparts.main.powers": ({}, [
        ("power_answer", "shape structure formula", "HSF", (SUM, MARKED, SOME)), ("power_holds", "shape structure formula times", "HSFN", (SUM, MARKED, SOME, 3)),
        ("mixed_power", "shape stock formula word", "HPFW", (SUM, STOCK, SOME, (0,))), ("mixed_holds", "shape stock formula word times", "HPFWN", (SUM, STOCK, SOME, (0,), 3)),
        ("sequence_answer", "shape stock formula", "HPF", (SUM, STOCK, SOME)), ("is_sequence_answer", "shape stock formula value", "HPF-", (SUM, STOCK, SOME, ("free",))),
        ("count_turns", "shape stock formula", "HPF", (SUM, STOCK, SOME)), ("counts_hold", "shape stock formula counts", "HPFO", (SUM, STOCK, SOME, (1, 2))),
    ]),
    "wholebyparts.main.gaps": ({}, [
        ("gap_answer", "shape stock formula before after", "HPFWW", (SUM, STOCK, SOME, (0,), (1,))), ("gap_formula", "shape formula ahead behind", "HFPP", (SUM, SOME, STOCK, STOCK)),
        ("is_gap_formula", "shape stock formula ahead behind value", "HPFPP-", (SUM, STOCK, SOME, STOCK, STOCK, SOME)),
        ("gap_for", "shape stock formula index", "HPFN", (SUM, STOCK, SOME, 1)), ("is_gap_for", "shape stock formula index value", "HPFN-", (SUM, STOCK, SOME, 1, ("never",))),
    ]),
    "wholebyparts.main.wholekinds": ({}, [
        ("part_kinds", "shape parts depth", "HPN", (WEB, (LINE, RING), 1)), ("whole_kind", "shape kinds depth", "HK-", (WEB, (kind(LINE, (), 1),), 1)),
        ("same_whole_answer", "shape one other depth", "HPPN", (WEB, (LINE,), (RING,), 1)),
        ("is_same_whole_answer", "shape one other depth value", "HPPN-", (WEB, (LINE,), (RING,), 1, ("alike",))),
    ]),
    "wholebyparts.judge.claims": ({}, [
        ("is_claim", "value", "-", (CLAIM,)), ("opposite", "claim", "C", (CLAIM,)), ("takes", "claim paper", "C-", (CLAIM, ("word", (1,)))), ("answered", "claim", "C", (CLAIM,)),
    ]),
    "wholebyparts.text.texts": ({"MOST_TEXT": 200000}, [
        ("structure_text", "structure", "S", (LINE,)), ("read_structure", "text", "T", ("structure 1 0 0\n",)), ("reader_text", "reader", "D", (EVEN,)),
        ("read_reader", "text", "T", ("reader 1 1\nstep 0\naccepting\n",)), ("formula_text", "signature free formula", "NNF", (SIGNS, 1, LOOP)),
        ("read_formula", "signature free text", "NNT", (SIGNS, 1, "link 0 0 0\n")),
    ]),
    "wholebyparts.house.desk": ({"MOST_NAMES": 12, "MOST_CALLS": 400}, [("Desk", "shape stock", "HP", (SUM, STOCK))]),
}
METHODS = {
    "keep": "name formula", "drop": "name", "put": "place letter", "take": "place", "change": "place letter", "turn": "", "holds": "name", "held": "",
    "fitting": "name place", "account": "", "undo": "calls", "twin": "",
}
# Values that are right ones somewhere, and so not wrong everywhere.
RIGHT = {"S": Structure, "D": Reader, "H": Shape, "T": str}


def calls():
    """Each function of the interface with its parameters, their letters, and good arguments."""
    found = []
    for path, (_, rows) in INTERFACE.items():
        module = importlib.import_module(path)
        found += [(getattr(module, name), params.split(), letters, args) for name, params, letters, args in rows]
    return found


def flat(value):
    """A value that tells all of an object of this package, and of what holds such."""
    if isinstance(value, (tuple, list)):
        return (type(value).__name__, tuple(flat(member) for member in value))
    if isinstance(value, Structure):
        return ("structure", value.size, value.marks, value.links, value.signature)
    if isinstance(value, Reader):
        return ("reader", value.letters, value.steps, value.accepting, value.states)
    if isinstance(value, Shape):
        rules = (value.domain, *value.marks, *value.links)
        return ("shape", value.signature, tuple(flat(rule) for rule in rules), value.whole_signature, value.extra)
    if isinstance(value, Desk):
        return ("desk", flat(value.shape), flat(value.stock), value.word, value.names, value.calls, value.held())
    return (type(value).__name__, value)


def wrong_for(call, letter, good):
    """Values that are wrong wherever the letter stands."""
    values = [value for value in [*WRONG, 10 ** 9, -10 ** 9, (10 ** 9,)] if letter not in RIGHT or not isinstance(value, RIGHT[letter])]
    return [value for value in values if not is_equal(value, good)]


class Interface(unittest.TestCase):
    def test_names(self):
        for path, (constants, rows) in INTERFACE.items():
            module = importlib.import_module(path)
            for name, value in constants.items():
                self.assertTrue(is_equal(getattr(module, name), value), name)
            for name, params, letters, args in rows:
                told = getattr(module, name)
                # Defined here, not just imported.
                self.assertEqual(told.__module__, path)
                self.assertEqual(list(inspect.signature(told).parameters), params.split(), name)
                self.assertEqual(len(letters), len(args), name)

    def test_desk_methods(self):
        for name, params in METHODS.items():
            told = Desk.__dict__[name]
            self.assertEqual(list(inspect.signature(told).parameters), ["self", *params.split()])
        self.assertEqual(inspect.signature(Desk.undo).parameters["calls"].kind, inspect.Parameter.KEYWORD_ONLY)
        for one in (Structure, Reader, Shape, Desk):
            self.assertIn("__eq__", one.__dict__)
            self.assertIn("__str__", one.__dict__)

    def test_errors_of_the_package(self):
        for name in ("NothingToUndo", "UnknownName", "TooMany", "Refused", "InvalidNumber", "ParseError"):
            self.assertFalse(issubclass(getattr(errors, name), errors.PartError) and name != "ParseError")


class Everywhere(unittest.TestCase):
    def test_equal_calls(self):
        # Equal calls give equal results, and change nothing that is passed or was given out.
        for call, _, _, args in calls():
            ahead = flat(args)
            first = call(*args)
            kept = flat(first)
            second = call(*args)
            self.assertEqual(flat(args), ahead)
            self.assertEqual(flat(first), kept)
            self.assertEqual(flat(second), kept)
            self.assertTrue(first == second)

    def test_kinds_of_answers(self):
        for call, _, _, args in calls():
            told = call(*args)
            if call.__name__.startswith(("is_", "does_", "takes", "holds", "mark_holds", "link_holds")):
                self.assertIn(type(told), (bool,), call.__name__)
            self.assertNotIsInstance(told, (list, dict, set))

    def test_wrong_arguments(self):
        # The first wrong argument is refused, whatever is wrong behind it.
        for call, params, letters, args in calls():
            wrong = []
            for place, letter in enumerate(letters):
                if letter != "-":
                    values = wrong_for(call, letter, args[place])
                    if inspect.isclass(call):
                        values = self.wrong_parts(call, params[place], values)
                    wrong.append((place, KINDS[letter], self.without_right(call, params[place], values)))
            refuses_each(self, call, args, wrong)

    def wrong_parts(self, call, param, values):
        """A class takes what is no object as well: of its parts some wrong values are none."""
        if call is Structure and param != "size":
            return [value for value in values if value != ()]
        if call is Shape and param in ("marks", "links"):
            return [value for value in values if value != ()]
        return values

    def without_right(self, call, param, values):
        """Without what is right here: `times` can be longer, and empty tuples are lots and sets."""
        if param in ("lots", "sets"):
            return [value for value in values if value != ((), (), ())]
        return [value for value in values if value != 10 ** 9] if param == "times" else values

    def test_every_value(self):
        # What judges a value accepts each one, and tells True or False.
        for call, params, _, args in calls():
            for name in ("value", "paper"):
                if name in params:
                    place = params.index(name)
                    for value in [*WRONG, 10 ** 9, -10 ** 99]:
                        told = call(*args[:place], value, *args[place + 1:])
                        self.assertIn(type(told), (bool,))
        for name in ("structure_fault", "reader_fault", "shape_fault"):
            call, _, _, args = [row for row in calls() if row[0].__name__ == name][0]
            for place in range(len(args)):
                for value in WRONG:
                    told = call(*args[:place], value, *args[place + 1:])
                    self.assertTrue(told is None or isinstance(told, tuple))

    def test_long_integers(self):
        # More than nine digits are wrong wherever no section says otherwise.
        for call, params, letters, args in calls():
            for place, letter in enumerate(letters):
                if letter == "N" and params[place] != "times":
                    for value in (10 ** 9, -10 ** 9, BIG, -BIG):
                        changed = args[:place] + (value,) + args[place + 1:]
                        with self.assertRaises(InvalidNumber) as caught:
                            call(*changed)
                        self.assertTrue(is_equal(caught.exception.given, value))

    def test_equality(self):
        objects = [LINE, RING, EVEN, ENDS, SUM, WEB, product_shape((1, 0)), Desk(SUM, STOCK)]
        for one in objects:
            for value in [*WRONG, *objects, None]:
                is_same = isinstance(value, (Structure, Reader, Shape, Desk)) and flat(one) == flat(value)
                self.assertIs(one == value, is_same)
                self.assertIs(one != value, not is_same)
                self.assertIs(value == one, is_same)


if __name__ == "__main__":
    unittest.main()
