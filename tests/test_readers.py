"""Stage 7: readers."""

import unittest
from itertools import product

from tests.helpers import BIG, DEEP_TUPLE, DOUBLED, NO_NUMBERS, NO_READERS, NO_WORDS, WRONG, Chooser, plain_state
from tests.helpers import refuses, refuses_each, some_readers
from wholebyparts.errors import InvalidNumber, InvalidReader, InvalidWord, TooMany
from wholebyparts.read import readers
from wholebyparts.read.readers import Reader, after_times, first_word, met, reader_fault, state_after, takes
from wholebyparts.read.readers import word_count, words

EVEN = Reader(2, ((0, 1), (1, 0)), (0,))
BOTH = Reader(2, ((1, 0), (2, 0), (2, 2), (3, 3)), (2,))
ALL = Reader(1, ((0,),), (0,))


class Data(unittest.TestCase):
    def test_constants(self):
        self.assertEqual((readers.MOST_LETTERS, readers.MOST_STATES, readers.MOST_WORD), (64, 512, 2000))

    def test_properties(self):
        self.assertEqual((BOTH.letters, BOTH.steps, BOTH.accepting, BOTH.states),
                         (2, ((1, 0), (2, 0), (2, 2), (3, 3)), (2,), 4))
        self.assertEqual(str(EVEN), "reader of 2 states over 2 letters")
        self.assertEqual(str(ALL), "reader of 1 states over 1 letters")

    def test_equality(self):
        self.assertTrue(EVEN == Reader(2, ((0, 1), (1, 0)), (0,)))
        self.assertFalse(EVEN != Reader(2, ((0, 1), (1, 0)), (0,)))
        others = (Reader(2, ((0, 1), (1, 0)), (1,)), Reader(2, ((0, 1), (1, 1)), (0,)), Reader(1, ((0,), (1,)), (0,)),
                  Reader(2, ((0, 0),), (0,)), (2, EVEN.steps, EVEN.accepting))
        for other in (*others, *NO_READERS):
            self.assertIs(EVEN == other, False)
            self.assertIs(EVEN != other, True)

    def test_letters(self):
        for letters in (*NO_NUMBERS, 0, 65):
            self.assertEqual(reader_fault(letters, None, None), ("letters",))
        for letters in (1, 64):
            self.assertIsNone(reader_fault(letters, ((0,) * letters,), ()))
            self.assertEqual(Reader(letters, ((0,) * letters,), ()).letters, letters)
        refuses(self, InvalidReader, None, Reader, 65, ((0,) * 65,), ())
        refuses(self, InvalidReader, None, Reader, 0, ((),), ())

    def test_states(self):
        for steps in ([x for x in WRONG if not isinstance(x, tuple)] + [(), [(0,)], ((0,),) * 513]):
            self.assertEqual(reader_fault(1, steps, None), ("steps",))
            refuses(self, InvalidReader, None, Reader, 1, steps, ())
        for many in (1, 512):
            self.assertIsNone(reader_fault(1, ((many - 1,),) * many, ()))
            self.assertEqual(Reader(1, ((many - 1,),) * many, (many - 1,)).states, many)

    def test_steps(self):
        near = [*[x for x in WRONG if x != ()], (), (0,), (0, 0, 0), (0, 2), (-1, 0), (True, 0), (0, False), [0, 1], (0, BIG)]
        for step in near:
            self.assertEqual(reader_fault(2, ((0, 1), step), None), ("step", 1))
            self.assertEqual(reader_fault(2, (step, 5), ()), ("step", 0))
            refuses(self, InvalidReader, None, Reader, 2, ((0, 1), step), ())

    def test_accepting(self):
        near = [*[x for x in WRONG if x != ()], (1, 0), (0, 0), (2,), (-1,), (True,), (False, 1), [0], (0, BIG)]
        for accepting in near:
            self.assertEqual(reader_fault(2, ((0, 1), (1, 0)), accepting), ("accepting",))
            refuses(self, InvalidReader, None, Reader, 2, ((0, 1), (1, 0)), accepting)
        for accepting in ((), (0,), (1,), (0, 1)):
            self.assertIsNone(reader_fault(2, ((0, 1), (1, 0)), accepting))


class Reading(unittest.TestCase):
    def test_words(self):
        for reader in some_readers(51, 40):
            for length in range(5):
                for word in product(range(reader.letters), repeat=length):
                    self.assertEqual(state_after(reader, word), plain_state(reader, word))
                    self.assertIs(takes(reader, word), plain_state(reader, word) in reader.accepting)
        self.assertEqual(state_after(EVEN, ()), 0)
        self.assertIs(takes(BOTH, ()), False)

    def test_long_words(self):
        self.assertEqual(state_after(EVEN, (1,) * 2000), 0)
        self.assertEqual(state_after(EVEN, (1,) * 1999), 1)
        for call in (state_after, takes):
            refuses(self, InvalidWord, None, call, EVEN, (1,) * 2001)
        refuses(self, InvalidWord, None, after_times, EVEN, (1,) * 2001, 0)

    def test_met(self):
        for reader in some_readers(52, 60):
            states = {plain_state(reader, word) for length in range(reader.states)
                      for word in product(range(reader.letters), repeat=length)}
            self.assertEqual(met(reader), tuple(sorted(states)))
        line = Reader(1, tuple((min(state + 1, 511),) for state in range(512)), ())
        self.assertEqual(met(line), tuple(range(512)))
        self.assertEqual(met(Reader(1, ((0,), (0,)), ())), (0,))
        self.assertEqual(met(Reader(1, ((2,), (0,), (0,)), ())), (0, 2))

    def test_first_word(self):
        for reader in some_readers(53, 150):
            taken = [word for length in range(reader.states) for word in product(range(reader.letters), repeat=length)
                     if plain_state(reader, word) in reader.accepting]
            self.assertEqual(first_word(reader), taken[0] if taken else None)
        line = Reader(2, tuple((0, min(state + 1, 511)) for state in range(512)), (511,))
        self.assertEqual(first_word(line), (1,) * 511)
        self.assertIsNone(first_word(Reader(1, ((0,), (1,)), (1,))))

    def test_counts_and_lists(self):
        for reader in some_readers(54, 60):
            for length in range(6):
                wanted = [word for word in product(range(reader.letters), repeat=length)
                          if plain_state(reader, word) in reader.accepting]
                self.assertEqual(word_count(reader, length), len(wanted))
                self.assertEqual(words(reader, length), tuple(wanted))

    def test_counts_of_long_words(self):
        self.assertEqual([word_count(EVEN, length) for length in (0, 1, 99)], [1, 1, 2 ** 98])
        every = Reader(64, ((0,) * 64,), (0,))
        self.assertEqual(word_count(every, 99), 64 ** 99)
        one = Reader(2, ((0, 1), (1, 1)), (0,))
        self.assertEqual(words(one, 99), ((0,) * 99,))
        self.assertEqual(words(Reader(2, ((0, 0),), ()), 99), ())
        line = Reader(2, tuple((min(state + 1, 511), 511) for state in range(512)), (99,))
        self.assertEqual(words(line, 99), ((0,) * 99,))
        self.assertEqual(words(ALL, 0), ((),))
        self.assertEqual(words(Reader(1, ((0,),), ()), 0), ())

    def test_lists_limit(self):
        # With the state i as many words of i letters, and one more, lead on.
        cubes = Reader(20, ((1,) * 20, (2,) * 20, (3,) * 5 + (4,) * 15, (4,) * 20, (4,) * 20), (3,))
        self.assertEqual((word_count(cubes, 3), len(words(cubes, 3))), (2000, 2000))
        more = Reader(3, ((1, 2, 2), *[(state + 1, state + 1, 13) for state in range(1, 13)], (13, 13, 13)), (12,))
        self.assertGreater(word_count(more, 12), 2000)
        refuses(self, TooMany, 2000, words, more, 12)
        single = Reader(3, ((1, 1, 1), (2, 2, 2), (3, 3, 3), (4, 4, 4), (5, 5, 5), (6, 6, 6), (7, 7, 7), (7, 7, 7)), (6, 7))
        self.assertEqual(word_count(single, 6), 729)
        refuses(self, TooMany, 2000, words, single, 7)
        self.assertEqual(len(words(EVEN, 11)), 1024)
        refuses(self, TooMany, 2000, words, EVEN, 12)
        # 2001 words of three letters: 2000 and one more.
        just = Reader(21, ((1,) * 20 + (5,), (2,) * 20 + (4,), (3,) * 5 + (4,) * 16, (4,) * 21, (4,) * 21,
                           (6,) + (4,) * 20, (3,) + (4,) * 20), (3,))
        self.assertEqual(word_count(just, 3), 2001)
        refuses(self, TooMany, 2000, words, just, 3)

    def test_long_words_of_some_readers(self):
        self.assertEqual((state_after(EVEN, (0, 1) * 1000), takes(EVEN, (0, 1) * 1000), after_times(EVEN, (0, 1) * 1000, 5)),
                         (0, True, 0))
        for reader in some_readers(56, 40):
            chooser = Chooser(reader.states)
            word = tuple(chooser.number(reader.letters) for _ in range(300))
            self.assertEqual(state_after(reader, word), plain_state(reader, word))
            self.assertIs(takes(reader, word), plain_state(reader, word) in reader.accepting)
            for times in (0, 1, 2, 3, 7):
                self.assertEqual(after_times(reader, word, times), plain_state(reader, word * times))
            for wrong in (True, False, -1, reader.letters, None, BIG, -BIG, [0], (0,), DEEP_TUPLE, DOUBLED, EVEN):
                for call in (state_after, takes):
                    refuses(self, InvalidWord, None, call, reader, (*word, wrong))
                    refuses(self, InvalidWord, None, call, reader, (wrong, *word))
                refuses(self, InvalidWord, None, after_times, reader, (*word, wrong), -1)

    def test_after_times(self):
        for reader in some_readers(55, 60):
            for length in range(3):
                for word in product(range(reader.letters), repeat=length):
                    for times in range(15):
                        self.assertEqual(after_times(reader, word, times), plain_state(reader, word * times))
        ring = Reader(1, tuple(((state + 1) % 500 if state < 500 else 0,) for state in range(512)), ())
        for times in (0, 499, 500, 10 ** 59 + 123, 10 ** 60 - 1):
            self.assertEqual(after_times(ring, (0,), times), times % 500)
            self.assertEqual(after_times(ring, (0,) * 7, times), times * 7 % 500)
        self.assertEqual(after_times(EVEN, (1,), 10 ** 60 - 1), 1)
        tail = Reader(1, ((1,), (2,), (3,), (1,)), ())
        self.assertEqual(after_times(tail, (0,), 10 ** 30), 1 + (10 ** 30 - 1) % 3)
        self.assertEqual(after_times(BOTH, (1, 0), 0), 0)

    def test_refusals(self):
        one = (0, InvalidReader, NO_READERS)
        word = (1, InvalidWord, NO_WORDS)
        lengths = (1, InvalidNumber, [*NO_NUMBERS, 100, -1])
        for call in (met, first_word):
            refuses_each(self, call, (EVEN,), [one])
        for call in (state_after, takes):
            refuses_each(self, call, (EVEN, (1, 0)), [one, word])
        refuses_each(self, word_count, (EVEN, 9), [one, lengths])
        refuses_each(self, words, (EVEN, 9), [one, lengths])
        times = (2, InvalidNumber, [x for x in NO_NUMBERS if x is not BIG] + [10 ** 60, BIG])
        refuses_each(self, after_times, (EVEN, (1, 0), 9), [one, word, times])


if __name__ == "__main__":
    unittest.main()
