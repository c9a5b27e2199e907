"""A desk: a word over a stock that is changed call by call, and formulas that are asked of its whole."""

from wholebyparts.checks import check_index, check_number, is_integer
from wholebyparts.errors import InvalidNumber, InvalidOperation, InvalidText, NothingToUndo, TooMany, UnknownName
from wholebyparts.main.stocks import check_stock, made_reader
from wholebyparts.read.readers import state_from
from wholebyparts.shape.wholes import check_whole_formula

MOST_NAMES = 12
MOST_CALLS = 400
MOST_SIGNS = 8
# No integer that is passed has more than nine digits.
MOST_PASSED = 10 ** 9 - 1


def _is_name(value):
    """Whether the value is a name: 1 to 8 letters a to z."""
    return isinstance(value, str) and 1 <= len(value) <= MOST_SIGNS and value.isascii() and _is_low(value)


def _is_low(text):
    return text.isalpha() and text.islower()


class Desk:
    """A shape, a stock, a word over it, and formulas about the whole, which have names. It changes.

    What stands ahead of each call is kept, so that calls can be taken back.
    """

    def __init__(self, shape, stock):
        check_stock(shape, stock)
        self.shape = shape
        self.stock = stock
        self.word = ()
        self.names = ()
        self.calls = 0
        self._kept = {}
        self._past = []

    def __eq__(self, other):
        if not isinstance(other, Desk):
            return False
        if self.shape != other.shape or self.stock != other.stock or self.word != other.word:
            return False
        if self.names != other.names:
            return False
        return all([self._kept[name][0] == other._kept[name][0] for name in self.names])

    def __str__(self):
        return f"desk of {len(self.stock)} structures, {len(self.word)} letters, {len(self.names)} formulas"

    def keep(self, name, formula):
        """The formula has this name from now on."""
        if not _is_name(name):
            raise InvalidText("this is no name")
        check_whole_formula(self.shape, formula)
        if name in self._kept:
            raise InvalidOperation("a formula has this name")
        reader = made_reader(self.shape, self.stock, formula)
        if len(self._kept) == MOST_NAMES:
            raise TooMany(MOST_NAMES)
        self._check_calls()
        kept = dict(self._kept)
        kept[name] = (formula, reader)
        self._put_down(self.word, kept)

    def drop(self, name):
        """No formula has this name any more."""
        self._check_name(name)
        self._check_calls()
        self._put_down(self.word, {told: kept for told, kept in self._kept.items() if told != name})

    def put(self, place, letter):
        """The letter stands at the place from now on, those from there on one farther."""
        check_number(place, 0, len(self.word))
        check_index(letter, len(self.stock))
        self._check_calls()
        self._put_down(self.word[:place] + (letter,) + self.word[place:], self._kept)

    def take(self, place):
        """The letter at the place is left out."""
        check_index(place, len(self.word))
        self._check_calls()
        self._put_down(self.word[:place] + self.word[place + 1:], self._kept)

    def change(self, place, letter):
        """The letter at the place is this one."""
        check_index(place, len(self.word))
        check_index(letter, len(self.stock))
        self._check_calls()
        self._put_down(self.word[:place] + (letter,) + self.word[place + 1:], self._kept)

    def turn(self):
        """The word from its end to its beginning."""
        self._check_calls()
        self._put_down(self.word[::-1], self._kept)

    def _check_calls(self):
        """Refuse one call more than can be undone."""
        if len(self._past) == MOST_CALLS:
            raise TooMany(MOST_CALLS)

    def _check_name(self, name):
        """Refuse what is no name of a formula."""
        if not isinstance(name, str) or name not in self._kept:
            raise UnknownName(name)

    def _put_down(self, word, kept):
        """What the call gives, and behind it what stood ahead of it."""
        self._past.append((self.word, self._kept))
        self._set(word, kept)

    def _set(self, word, kept):
        self.word = word
        self._kept = kept
        self.names = tuple(sorted(kept))
        self.calls = len(self._past)

    def holds(self, name):
        """Whether the whole of the word has the formula."""
        self._check_name(name)
        return self._has(name)

    def _has(self, name):
        reader = self._kept[name][1]
        return state_from(reader, 0, self.word) in reader.accepting

    def held(self):
        """The ascending tuple of the names whose formulas hold."""
        return tuple([name for name in self.names if self._has(name)])

    def fitting(self, name, place):
        """The ascending tuple of the letters with which, at the place, the whole has the formula."""
        self._check_name(name)
        check_index(place, len(self.word))
        reader = self._kept[name][1]
        step = reader.steps[state_from(reader, 0, self.word[:place])]
        rest = self.word[place + 1:]
        return tuple([letter for letter, goal in enumerate(step) if state_from(reader, goal, rest) in reader.accepting])

    def account(self):
        """How often each letter of the stock stands in the word."""
        return tuple([self.word.count(letter) for letter in range(len(self.stock))])

    def undo(self, *, calls=1):
        """Take so many calls back, the last one first."""
        if not is_integer(calls) or not 1 <= calls <= MOST_PASSED:
            raise InvalidNumber(calls)
        if calls > len(self._past):
            raise NothingToUndo(calls)
        word, kept = self._past[-calls]
        del self._past[-calls:]
        self._set(word, kept)

    def twin(self):
        """An equal desk that goes its own ways; its calls can be undone, too."""
        told = Desk(self.shape, self.stock)
        # No lot of kept formulas is changed: each call makes a new one.
        told._past = list(self._past)
        told._set(self.word, self._kept)
        return told
