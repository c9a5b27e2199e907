"""Stage 22: a desk."""

import unittest

from tests.helpers import NO_NUMBERS, NO_SHAPES, WRONG, Chooser, is_equal, plain_things, plain_whole, plainly_holds
from tests.helpers import refuses, refuses_each, some_shapes
from tests.test_machine import NO_STOCKS, NO_WHOLE_FORMULAS, from_the_end, stocks
from wholebyparts.errors import InvalidFormula, InvalidNumber, InvalidOperation, InvalidParts, InvalidShape, InvalidText
from wholebyparts.errors import NothingToUndo, Refused, TooMany, UnknownName
from wholebyparts.house import desk as module
from wholebyparts.house.desk import Desk
from wholebyparts.main.machine import answer, classes
from wholebyparts.part.structures import Structure
from wholebyparts.say.formulas import depth_of
from wholebyparts.shape.rules import some_rule
from wholebyparts.shape.shapes import Shape, ahead_shape, sum_shape

SUM = sum_shape((1, 0))
MARKED, BARE = Structure(1, ((0,),), ()), Structure(1, ((),), ())
STOCK = (MARKED, BARE)
SOME, EACH = ("some", ("mark", 0, 0)), ("all", ("mark", 0, 0))
NAMES = ("a", "b", "some", "each", "zzzzzzzz")
NO_NAMES = [*WRONG, "A", "a1", "a b", "abcdefghi", "a\n", "caf\u00e9", "\u00e9", b"a", ["a"], ("a",), "_", "aB"]
NO_LETTERS = [*[value for value in NO_NUMBERS if value not in (0, 1)], 2]


class Model:
    """What a desk must tell, by the words of the document alone: all calls that stand, done anew."""

    def __init__(self, shape, stock):
        self.shape = shape
        self.stock = stock
        self.calls = []

    def told(self):
        """The word and the formulas behind the calls that stand."""
        word, kept = [], {}
        for name, *args in self.calls:
            if name == "keep":
                kept[args[0]] = args[1]
            elif name == "drop":
                del kept[args[0]]
            elif name == "put":
                word.insert(*args)
            elif name == "take":
                word.pop(args[0])
            elif name == "change":
                word[args[0]] = args[1]
            else:
                word.reverse()
        return tuple(word), kept


def has(desk, word, formula):
    return answer(desk.shape, desk.stock, formula, word)


def check(test, desk, model):
    """The desk tells what the calls that stand make."""
    word, kept = model.told()
    test.assertEqual((desk.word, desk.names, desk.calls), (word, tuple(sorted(kept)), len(model.calls)))
    test.assertTrue(desk.shape == model.shape and desk.stock == model.stock)
    test.assertEqual(desk.account(), tuple(word.count(letter) for letter in range(len(model.stock))))
    test.assertEqual(desk.held(), tuple(name for name in sorted(kept) if has(desk, word, kept[name])))
    test.assertEqual(str(desk), f"desk of {len(model.stock)} structures, {len(word)} letters, {len(kept)} formulas")
    for name, formula in kept.items():
        test.assertIs(desk.holds(name), has(desk, word, formula))
        for place in range(len(word))[:3]:
            wanted = [letter for letter in range(len(model.stock)) if has(desk, word[:place] + (letter,) + word[place + 1:], formula)]
            test.assertEqual(desk.fitting(name, place), tuple(wanted))


def seen(desk):
    """All that a desk tells, but for what fits."""
    return (desk.word, desk.names, desk.calls, desk.account(), desk.held(), str(desk))


def rebuilt(model):
    """A new desk with just the calls that stand."""
    told = Desk(model.shape, model.stock)
    for name, *args in model.calls:
        done(told, name, args)
    return told


def done(desk, name, args):
    return getattr(desk, name)(*args)



class Rows(unittest.TestCase):
    """Long rows of calls, some refused, some undone, held against a new desk after each one."""

    def step(self, chooser, desk, model, formulas):
        """One call, as it is drawn; whether it was refused."""
        kind = chooser.number(10)
        many, letters = len(desk.word), len(desk.stock)
        if kind == 0:
            call = ("keep", chooser.one_of(NAMES), chooser.one_of(formulas))
        elif kind == 1:
            call = ("drop", chooser.one_of(NAMES))
        elif kind < 5:
            call = ("put", chooser.number(many + 2), chooser.number(letters + (not chooser.number(5))))
        elif kind == 5:
            call = ("take", chooser.number(many + 1))
        elif kind < 8:
            call = ("change", chooser.number(many + 1), chooser.number(letters))
        elif kind == 8:
            call = ("turn",)
        else:
            return self.undo(chooser, desk, model)
        ahead = seen(desk)
        try:
            self.assertIsNone(done(desk, call[0], call[1:]))
        except (InvalidNumber, InvalidOperation, UnknownName, TooMany) as error:
            self.assertEqual(seen(desk), ahead)
            self.assertTrue(self.is_plainly_wrong(call, model, error), call)
            return True
        self.assertFalse(self.is_plainly_wrong(call, model, None), call)
        model.calls.append(call)
        return False

    def is_plainly_wrong(self, call, model, error):
        """Whether the call is refused, and just by this error."""
        word, kept = model.told()
        name, args = call[0], call[1:]
        if name == "keep":
            return args[0] in kept and (error is None or type(error) is InvalidOperation)
        if name == "drop":
            return args[0] not in kept and (error is None or (type(error) is UnknownName and error.wanted == args[0]))
        if name == "turn":
            return False
        places = len(word) + (name == "put")
        wrong = [] if 0 <= args[0] < places else [args[0]]
        wrong += [] if name == "take" or args[1] < len(model.stock) else [args[1]]
        return wrong != [] and (error is None or (type(error) is InvalidNumber and error.given == wrong[0]))

    def undo(self, chooser, desk, model):
        many = 1 + chooser.number(3)
        ahead = seen(desk)
        if many > len(model.calls):
            refuses(self, NothingToUndo, many, lambda: desk.undo(calls=many))
            self.assertEqual(seen(desk), ahead)
            return True
        self.assertIsNone(desk.undo() if many == 1 else desk.undo(calls=many))
        del model.calls[-many:]
        return False

    def test_rows(self):
        chooser = Chooser(231)
        refused = 0
        for shape in [SUM, ahead_shape((1, 1), 0), *some_shapes(chooser, 8)]:
            stock = stocks(chooser, shape.signature, 1 + chooser.number(3), 2)
            depth = min(2, 3 - shape.extra)
            formulas = [chooser.formula(shape.whole_signature, 0, depth, 2 + chooser.number(8)) for _ in range(5)]
            desk, model = Desk(shape, stock), Model(shape, stock)
            check(self, desk, model)
            for _ in range(60):
                refused += self.step(chooser, desk, model, formulas)
                check(self, desk, model)
                again = rebuilt(model)
                self.assertTrue(desk == again)
                self.assertEqual(seen(desk), seen(again))
        self.assertGreater(refused, 50)

    def test_twins(self):
        chooser = Chooser(232)
        for _ in range(12):
            pairs = [(Desk(SUM, STOCK), Model(SUM, STOCK))]
            for _ in range(40):
                desk, model = chooser.one_of(pairs)
                if chooser.number(6) == 0:
                    twin, other = desk.twin(), Model(SUM, STOCK)
                    other.calls = list(model.calls)
                    self.assertTrue(twin == desk)
                    self.assertEqual(seen(twin), seen(desk))
                    pairs.append((twin, other))
                self.step(chooser, desk, model, (SOME, EACH, ("true",)))
                for one, told in pairs:
                    check(self, one, told)
            for desk, model in pairs:
                while model.calls:
                    desk.undo()
                    model.calls.pop()
                    check(self, desk, model)
                refuses(self, NothingToUndo, 1, desk.undo)

    def test_by_wholes(self):
        chooser = Chooser(233)
        checked = 0
        for shape in some_shapes(chooser, 40):
            stock = stocks(chooser, shape.signature, 2, 2)
            formula = chooser.formula(shape.whole_signature, 0, min(2, 3 - shape.extra), 6)
            desk = Desk(shape, stock)
            desk.keep("f", formula)
            for letter in (0, 1, 0):
                desk.put(0, letter)
                parts = tuple(stock[x] for x in desk.word)
                if len(plain_things(shape, parts)) <= 20:
                    checked += 1
                    self.assertIs(desk.holds("f"), plainly_holds(plain_whole(shape, parts), formula, ()))
        self.assertGreater(checked, 60)

    def test_several_at_once(self):
        one, other = Desk(SUM, STOCK), Desk(SUM, STOCK)
        one.keep("some", SOME)
        one.put(0, 0)
        self.assertEqual(seen(other), ((), (), 0, (0, 0), (), "desk of 2 structures, 0 letters, 0 formulas"))
        other.put(0, 1)
        other.keep("some", SOME)
        self.assertEqual((one.held(), other.held()), (("some",), ()))
        one.undo(calls=2)
        self.assertEqual((one.word, other.word, one.calls, other.calls), ((), (1,), 0, 2))


class Formulas(unittest.TestCase):
    def test_names(self):
        desk = Desk(SUM, STOCK)
        for name in ("z", "abcdefgh", "a", "some"):
            desk.keep(name, SOME)
        self.assertEqual(desk.names, ("a", "abcdefgh", "some", "z"))
        refuses(self, InvalidOperation, None, desk.keep, "a", EACH)
        refuses(self, InvalidOperation, None, desk.keep, "a", SOME)
        desk.drop("a")
        desk.keep("a", EACH)
        self.assertEqual((desk.held(), desk.calls), (("a",), 6))
        desk.undo(calls=2)
        self.assertEqual((desk.held(), desk.names), ((), ("a", "abcdefgh", "some", "z")))

    def test_most_names(self):
        self.assertEqual((module.MOST_NAMES, module.MOST_CALLS), (12, 400))
        desk = Desk(SUM, STOCK)
        names = ["abcdefghijklm"[at] * (1 + at % 8) for at in range(13)]
        for name in names[:12]:
            desk.keep(name, EACH)
        self.assertEqual(desk.names, tuple(sorted(names[:12])))
        refuses(self, TooMany, 12, desk.keep, names[12], SOME)
        refuses(self, InvalidOperation, None, desk.keep, names[0], SOME)
        self.assertEqual(desk.calls, 12)
        desk.drop(names[3])
        desk.keep(names[12], SOME)
        self.assertEqual(len(desk.names), 12)
        desk.undo(calls=2)
        self.assertEqual(desk.names, tuple(sorted(names[:12])))

    def test_deep_and_many(self):
        extra = Shape((1, 0), SUM.domain, (some_rule((1, 0), 1, ("some", ("same", 0, 1))),), ())
        three = ("some", ("all", ("some", ("mark", 0, 2))))
        deep, many = Desk(extra, STOCK), Desk(from_the_end(10), STOCK)
        refuses(self, Refused, ("deep",), deep.keep, "f", three)
        refuses(self, TooMany, 512, many.keep, "f", SOME)
        for desk in (deep, many):
            self.assertEqual((desk.names, desk.calls), ((), 0))
            desk.keep("f", ("true",))
        # A name that is taken comes first, too many names behind.
        refuses(self, InvalidOperation, None, deep.keep, "f", three)
        refuses(self, InvalidOperation, None, many.keep, "f", SOME)
        for name in "abcdeghijkl":
            for desk in (deep, many):
                desk.keep(name, ("true",))
        refuses(self, Refused, ("deep",), deep.keep, "m", three)
        refuses(self, TooMany, 512, many.keep, "m", SOME)
        refuses(self, TooMany, 12, many.keep, "m", ("true",))

    def test_letters_of_one_class(self):
        chooser = Chooser(234)
        for shape in some_shapes(chooser, 25):
            stock = stocks(chooser, shape.signature, 3, 3)
            stock = (*stock, *stock)
            formulas = [chooser.formula(shape.whole_signature, 0, min(2, 3 - shape.extra), 6) for _ in range(3)]
            desk = Desk(shape, stock)
            for name, formula in zip("abc", formulas):
                desk.keep(name, formula)
            for letter in (0, 2, 1, 0):
                desk.put(0, letter)
            told = [desk.held(), desk.fitting("a", 1)]
            lots = classes(shape, stock, max(depth_of(shape.whole_signature, 0, formula) for formula in formulas))
            for place, letter in enumerate(desk.word):
                lot = [one for one in lots if letter in one][0]
                desk.change(place, lot[-1])
                self.assertEqual([desk.held(), desk.fitting("a", 1)], told)


class Calls(unittest.TestCase):
    def test_most_calls(self):
        desk = Desk(SUM, STOCK)
        desk.keep("some", SOME)
        for at in range(399):
            desk.put(at // 2, at % 2)
        self.assertEqual((desk.calls, len(desk.word)), (400, 399))
        ahead = seen(desk)
        for call, args in ((desk.turn, ()), (desk.put, (0, 0)), (desk.take, (0,)), (desk.change, (0, 0)), (desk.keep, ("x", EACH)), (desk.drop, ("some",))):
            refuses(self, TooMany, 400, call, *args)
        # Behind all other errors.
        refuses(self, InvalidNumber, 400, desk.put, 400, 0)
        refuses(self, InvalidNumber, 2, desk.put, 0, 2)
        refuses(self, InvalidNumber, 399, desk.take, 399)
        refuses(self, InvalidNumber, 399, desk.change, 399, 0)
        refuses(self, InvalidNumber, 2, desk.change, 0, 2)
        refuses(self, UnknownName, "each", desk.drop, "each")
        refuses(self, InvalidOperation, None, desk.keep, "some", SOME)
        refuses(self, InvalidText, None, desk.keep, "SOME", SOME)
        refuses(self, InvalidFormula, None, desk.keep, "x", None)
        self.assertEqual(seen(desk), ahead)
        twin = desk.twin()
        refuses(self, TooMany, 400, twin.turn)
        desk.undo()
        desk.turn()
        refuses(self, TooMany, 400, desk.turn)
        self.assertEqual((desk.calls, twin.calls), (400, 400))
        self.assertEqual(twin.word, ahead[0])
        desk.undo(calls=400)
        self.assertTrue(desk == Desk(SUM, STOCK))
        refuses(self, NothingToUndo, 1, desk.undo)

    def test_names_and_calls_at_their_most(self):
        desk = Desk(SUM, STOCK)
        for name in "abcdefghijkl":
            desk.keep(name, EACH)
        for _ in range(388):
            desk.turn()
        refuses(self, TooMany, 12, desk.keep, "m", EACH)
        desk.undo()
        refuses(self, TooMany, 12, desk.keep, "m", EACH)

    def test_undo(self):
        desk = Desk(SUM, STOCK)
        for at in range(5):
            desk.put(at, at % 2)
        for calls in (None, True, False, 0, -1, 10 ** 9, 10 ** 99, "1", (1,), [1], ()):
            refuses(self, InvalidNumber, calls, lambda: desk.undo(calls=calls))
        for calls in (6, 10 ** 9 - 1):
            refuses(self, NothingToUndo, calls, lambda: desk.undo(calls=calls))
        self.assertEqual(desk.word, (0, 1, 0, 1, 0))
        self.assertIsNone(desk.undo(calls=2))
        self.assertEqual(desk.word, (0, 1, 0))
        self.assertIsNone(desk.undo(calls=3))
        self.assertEqual((desk.word, desk.calls), ((), 0))
        for call in (lambda: desk.undo(1), lambda: desk.undo(1, calls=1)):
            with self.assertRaises(TypeError):
                call()

    def test_turn(self):
        desk = Desk(SUM, STOCK)
        desk.turn()
        self.assertEqual((desk.word, desk.calls), ((), 1))
        for at, letter in enumerate((0, 1, 1)):
            desk.put(at, letter)
        desk.turn()
        self.assertEqual(desk.word, (1, 1, 0))
        desk.turn()
        self.assertEqual(desk.word, (0, 1, 1))
        # A call that changes nothing counts, too.
        desk.change(0, 0)
        self.assertEqual(desk.calls, 7)
        desk.undo(calls=2)
        self.assertEqual(desk.word, (1, 1, 0))

    def test_answers_give_none(self):
        desk = Desk(SUM, STOCK)
        told = [desk.keep("a", SOME), desk.put(0, 0), desk.put(0, 1), desk.change(1, 1), desk.take(0), desk.turn(), desk.drop("a"), desk.undo()]
        self.assertEqual(told, [None] * 8)


class Equal(unittest.TestCase):
    def test_equality(self):
        desk, other = Desk(SUM, STOCK), Desk(sum_shape((1, 0)), (Structure(1, ((0,),), ()), BARE))
        self.assertTrue(desk == other)
        self.assertFalse(desk != other)
        # What happened ahead does not matter.
        desk.put(0, 0)
        desk.take(0)
        self.assertTrue(desk == other)
        self.assertEqual((desk.calls, other.calls), (2, 0))
        for name, formula in (("a", SOME), ("b", SOME), ("a", EACH)):
            one, two = desk.twin(), other.twin()
            one.keep("a", SOME)
            two.keep(name, formula)
            self.assertEqual(one == two, (name, formula) == ("a", SOME))
            self.assertFalse(one == desk)
            self.assertFalse(desk == one)
        desk.put(0, 1)
        self.assertFalse(desk == other)
        self.assertTrue(desk != other)
        self.assertFalse(Desk(SUM, STOCK) == Desk(SUM, STOCK[::-1]))
        self.assertFalse(Desk(SUM, STOCK) == Desk(SUM, STOCK[:1]))
        self.assertFalse(Desk(SUM, STOCK) == Desk(from_the_end(2), STOCK))
        for value in WRONG:
            self.assertIs(desk == value, False)
            self.assertIs(desk != value, True)

    def test_what_was_told_stays(self):
        desk = Desk(SUM, STOCK)
        desk.keep("a", SOME)
        desk.put(0, 0)
        word, names, held, account = desk.word, desk.names, desk.held(), desk.account()
        desk.put(0, 1)
        desk.drop("a")
        self.assertEqual((word, names, held, account), ((0,), ("a",), ("a",), (1, 0)))
        self.assertTrue(desk.stock == STOCK and desk.shape == SUM)


class Refusals(unittest.TestCase):
    def desk(self):
        desk = Desk(SUM, STOCK)
        desk.keep("a", SOME)
        for letter in (0, 1):
            desk.put(0, letter)
        return desk

    def test_new(self):
        refuses_each(self, Desk, (SUM, STOCK), [(0, InvalidShape, NO_SHAPES), (1, InvalidParts, NO_STOCKS)])

    def test_calls(self):
        letters = (1, InvalidNumber, NO_LETTERS)
        names = (0, UnknownName, [*NO_NAMES, "b", "some"])
        places, more = [*NO_NUMBERS, 2], [*NO_NUMBERS, 3]
        calls = [
            ("keep", ("b", EACH), [(0, InvalidText, [value for value in NO_NAMES if value != "true"]), (1, InvalidFormula, NO_WHOLE_FORMULAS)]),
            ("drop", ("a",), [names]), ("put", (2, 0), [(0, InvalidNumber, more), letters]), ("take", (1,), [(0, InvalidNumber, places)]),
            ("change", (1, 0), [(0, InvalidNumber, places), letters]), ("holds", ("a",), [names]),
            ("fitting", ("a", 1), [names, (1, InvalidNumber, places)]),
        ]
        for name, good, wrong in calls:
            for place, kind, values in wrong:
                for value in values:
                    desk = self.desk()
                    ahead = seen(desk)
                    args = good[:place] + (value,) + good[place + 1:]
                    self.check(desk, name, args, kind, value)
                    # With a second one wrong the first error comes.
                    if len(wrong) == 2 and place == 0:
                        for later in (wrong[1][2][0], wrong[1][2][-1]):
                            self.check(desk, name, (value, later), kind, value)
                    self.assertEqual(seen(desk), ahead)
                    self.assertTrue(desk == self.desk())

    def check(self, desk, name, args, kind, value):
        with self.assertRaises(kind) as caught:
            done(desk, name, args)
        self.assertIs(type(caught.exception), kind)
        if kind is UnknownName:
            self.assertTrue(is_equal(caught.exception.wanted, value))
        if kind is InvalidNumber:
            self.assertTrue(is_equal(caught.exception.given, value))

    def test_no_letters(self):
        desk = Desk(SUM, STOCK)
        desk.keep("a", SOME)
        refuses(self, InvalidNumber, 0, desk.take, 0)
        refuses(self, InvalidNumber, 0, desk.change, 0, 0)
        refuses(self, InvalidNumber, 0, desk.fitting, "a", 0)
        refuses(self, InvalidNumber, 1, desk.put, 1, 0)
        self.assertEqual(desk.put(0, 1), None)


if __name__ == "__main__":
    unittest.main()
