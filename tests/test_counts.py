"""Stage 10: when the sequence does not matter, and words again and again."""

import unittest
from itertools import product

from tests.helpers import BIG, NO_NUMBERS, NO_READERS, NO_WORDS, WRONG, accepts_all, all_words, cycle, line
from tests.helpers import plainly_takes, refuses, refuses_each, some_readers
from wholebyparts.errors import InvalidNumber, InvalidOperation, InvalidReader, InvalidWord, Refused
from wholebyparts.read.counts import counts_of, is_order_answer, lessened, order_answer, repeat_answer, takes_counts
from wholebyparts.read.counts import takes_times, turns
from wholebyparts.read.making import both, least
from wholebyparts.read.readers import Reader

EVEN, ENDS = Reader(2, ((0, 1), (1, 0)), (0,)), Reader(2, ((0, 1), (0, 1)), (1,))
ALL, NOTHING = Reader(2, ((0, 0),), (0,)), Reader(2, ((0, 0),), ())
# Counts the letters 0 up to two, the letters 1 in threes.
GRID = both(Reader(2, ((1, 0), (2, 1), (2, 2)), (1, 2)), Reader(2, ((0, 1), (1, 2), (2, 0)), (0, 2)))
MOST = 10 ** 60 - 1


def free_readers():
    """Readers for which the sequence does not matter."""
    found = [EVEN, ALL, NOTHING, GRID, cycle(5, (1, 2), 3), line(4, (1, 3), 2), *some_readers(101, 30, 1, 7)]
    parts = [Reader(2, tuple((state, goal) for state, goal in enumerate(column)), accepting)
             for column, accepting in (((1, 2, 1), (1,)), ((1, 2, 3, 4, 2), (0, 1, 3)), ((1, 1), (0,)))]
    turned = [Reader(2, tuple(step[::-1] for step in reader.steps), reader.accepting) for reader in parts]
    return found + parts + [both(one, other) for one in parts for other in turned]


def counted(letters, word):
    return tuple(word.count(letter) for letter in range(letters))


class Order(unittest.TestCase):
    def test_counts_of(self):
        for letters in (1, 2, 3):
            for word in all_words(letters, 4):
                self.assertEqual(counts_of(letters, word), counted(letters, word))
        self.assertEqual(counts_of(64, (63,) * 2000), (0,) * 63 + (2000,))
        refuses_each(self, counts_of, (2, (0, 1)), [(0, InvalidNumber, [*NO_NUMBERS, 0, 65]), (1, InvalidWord, NO_WORDS)])

    def test_answers(self):
        seen = {"free": 0, "words": 0}
        for reader in some_readers(102, 150, 2, 4) + some_readers(103, 60, 3, 3) + [EVEN, ENDS, GRID, ALL, NOTHING]:
            found = order_answer(reader)
            seen[found[0]] += 1
            self.assertIs(is_order_answer(reader, found), True)
            taken = {}
            for word in all_words(reader.letters, 8 if reader.letters < 3 else 6):
                taken.setdefault(counted(reader.letters, word), set()).add(plainly_takes(reader, word))
            is_free = all(len(told) == 1 for told in taken.values())
            self.assertEqual(found == ("free",), is_free)
            self.assertIs(is_order_answer(reader, ("free",)), is_free)
        self.assertTrue(min(seen.values()) > 20)

    def test_made_readers(self):
        for reader in free_readers():
            self.assertEqual(order_answer(reader), ("free",))

    def test_states_that_are_not_met(self):
        self.assertEqual(order_answer(Reader(2, ((0, 0), (1, 2), (2, 1)), (0, 1))), ("free",))
        self.assertEqual(order_answer(Reader(2, ((1, 2), (3, 3), (4, 4), (3, 3), (4, 4)), (0, 1, 2, 3, 4))), ("free",))

    def test_long_words(self):
        # What comes first is told apart behind many letters only.
        many = 250
        steps = [(state + 1, state + 1) for state in range(many)] + [(many + 1, many + 2), (many + 2, many + 3)]
        steps += [(many + 2, many + 2)] + [(state + 1, state + 1) for state in range(many + 3, many + 250)] + [(many + 250,) * 2]
        reader = Reader(2, tuple(steps), (many + 250,))
        found = order_answer(reader)
        self.assertEqual(found[0], "words")
        self.assertIs(is_order_answer(reader, found), True)

    def test_judged(self):
        for reader in some_readers(104, 15, 2, 3) + [ENDS, EVEN]:
            few = all_words(reader.letters, 3)
            for one, other in product(few, few):
                wanted = counted(reader.letters, one) == counted(reader.letters, other)
                wanted = wanted and plainly_takes(reader, one) != plainly_takes(reader, other)
                self.assertIs(is_order_answer(reader, ("words", one, other)), wanted)
        good = ("words", (0, 1), (1, 0))
        for value in (list(good), good[:2], (*good, ()), ("word", *good[1:]), ("words", (False, 1), (1, 0)), ("free", ()),
                      ("words", (0, True), (1, 0)), ("words", [0, 1], (1, 0)), ("words", (0, 1), (1,)), ["free"], "free",
                      ("words", (0, 2), (2, 0)), ("words", (0,) * 2000 + (1,), (1,) + (0,) * 2000)):
            self.assertIs(is_order_answer(ENDS, value), False)
        self.assertIs(is_order_answer(ENDS, good), True)
        self.assertIs(is_order_answer(ENDS, ("words", (0,) * 1999 + (1,), (1,) + (0,) * 1999)), True)
        for value in NO_WORDS:
            self.assertIs(is_order_answer(ENDS, ("words", value, (0,))), False)
            self.assertIs(is_order_answer(ENDS, ("words", (0,), value)), False)
        accepts_all(self, is_order_answer, ENDS)
        accepts_all(self, is_order_answer, EVEN)


class Round(unittest.TestCase):
    def test_turns(self):
        for reader in some_readers(105, 150, 3, 7) + free_readers():
            states = least(reader)
            told = turns(reader)
            self.assertEqual(len(told), reader.letters)
            for letter, (first, period) in enumerate(told):
                maps = [tuple(range(states.states))]
                while len(maps) <= first + 2 * period + 20:
                    maps.append(tuple(states.steps[state][letter] for state in maps[-1]))
                least_first = next(at for at in range(len(maps)) if maps[at] in maps[at + 1:])
                self.assertEqual(first, least_first)
                self.assertEqual(period, maps[first + 1:].index(maps[first]) + 1)

    def test_long_turns(self):
        rings, steps, first = (2, 3, 5, 7, 11, 13, 17), [], 1
        for ring in rings:
            steps += [first + (place + 1) % ring for place in range(ring)]
            first += ring
        starts = [1 + sum(rings[:index]) for index in range(len(rings))]
        table = tuple([(0, *starts)] + [(goal, *starts) for goal in steps])
        reader = Reader(8, table, tuple(starts))
        self.assertEqual(turns(reader)[0], (0, 510510))
        self.assertEqual(turns(line(512, (511,)))[0], (511, 1))
        self.assertEqual(turns(cycle(512)), ((0, 512),))

    def test_takes_counts(self):
        for reader in free_readers():
            for counts in product(range(8 if reader.letters == 1 else 5), repeat=reader.letters):
                word = tuple(letter for letter, count in enumerate(counts) for _ in range(count))
                self.assertIs(takes_counts(reader, counts), plainly_takes(reader, word))
                self.assertIs(takes_counts(reader, lessened(reader, counts)), plainly_takes(reader, word))
                wanted = tuple(count if count < first else first + (count - first) % period
                               for count, (first, period) in zip(counts, turns(reader)))
                self.assertEqual(lessened(reader, counts), wanted)

    def test_large_counts(self):
        self.assertIs(takes_counts(EVEN, (MOST, MOST)), False)
        self.assertIs(takes_counts(EVEN, (MOST, MOST - 1)), True)
        self.assertEqual(lessened(EVEN, (MOST, MOST)), (0, 1))
        self.assertEqual(lessened(GRID, (MOST, MOST)), (1, MOST % 3))
        self.assertIs(takes_counts(cycle(511, (MOST % 511,)), (MOST,)), True)
        self.assertIs(takes_counts(line(4, (3,)), (MOST,)), True)
        for call in (takes_counts, lessened):
            refuses(self, InvalidOperation, None, call, EVEN, (MOST + 1, 0))

    def test_refusals(self):
        counts = [*WRONG, (), (0,), (0, 0, 0), (-1, 0), (0, True), (False, 0), [0, 0], (0, None), (0, MOST + 1), (BIG, 0)]
        for call in (takes_counts, lessened):
            refuses_each(self, call, (EVEN, (1, 1)), [(0, InvalidReader, NO_READERS), (1, InvalidOperation, counts)])
            refuses(self, Refused, ("order",), call, ENDS, (1, 1))
            refuses(self, InvalidOperation, None, call, ENDS, (1,))
        for call in (turns, order_answer):
            refuses_each(self, call, (EVEN,), [(0, InvalidReader, NO_READERS)])
        refuses_each(self, is_order_answer, (EVEN, ("free",)), [(0, InvalidReader, NO_READERS)])


class Again(unittest.TestCase):
    def test_repeat_answer(self):
        for reader in some_readers(106, 120, 2, 6) + free_readers() + [ENDS]:
            for word in all_words(reader.letters, 3):
                first, period, answers = repeat_answer(reader, word)
                row = [plainly_takes(reader, word * times) for times in range(60)]
                self.assertEqual(answers, tuple(row[:first + period]))
                pairs = [(one, other) for one in range(20) for other in range(1, 20)
                         if all(row[at] == row[at + other] for at in range(one, 40))]
                self.assertEqual((first, period), min(pairs))

    def test_known_answers(self):
        self.assertEqual(repeat_answer(cycle(512, (7,)), (0,)), (0, 512, tuple(at == 7 for at in range(512))))
        self.assertEqual(repeat_answer(cycle(512, (0, 256)), (0,) * 64), (0, 4, (True, False, False, False)))
        self.assertEqual(repeat_answer(line(512, (511,)), (0,)), (511, 1, (False,) * 511 + (True,)))
        self.assertEqual(repeat_answer(EVEN, ()), (0, 1, (True,)))
        self.assertEqual(repeat_answer(EVEN, (1,) * 1999), (0, 2, (True, False)))
        # They hang on what is taken alone.
        loose = Reader(1, ((1,), (2,), (3,), (4,), (1,)), (0, 1, 2, 3, 4))
        self.assertEqual(repeat_answer(loose, (0,)), (0, 1, (True,)))

    def test_takes_times(self):
        for reader in some_readers(107, 60, 2, 6):
            for word in all_words(reader.letters, 2):
                for times in range(12):
                    self.assertIs(takes_times(reader, word, times), plainly_takes(reader, word * times))
        self.assertIs(takes_times(cycle(511, (MOST % 511,)), (0,), MOST), True)
        self.assertIs(takes_times(EVEN, (1,), MOST), False)

    def test_refusals(self):
        one, word = (0, InvalidReader, NO_READERS), (1, InvalidWord, NO_WORDS)
        times = (2, InvalidNumber, [*NO_NUMBERS, MOST + 1])
        refuses_each(self, repeat_answer, (EVEN, (1, 0)), [one, word])
        refuses_each(self, takes_times, (EVEN, (1, 0), 9), [one, word, times])


if __name__ == "__main__":
    unittest.main()
