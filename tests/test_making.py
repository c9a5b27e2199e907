"""Stage 8: readers made of readers."""

import unittest
from itertools import product

from tests.helpers import NO_READERS, NO_WORDS, WRONG, Chooser, accepts_all, all_words, check_takes, cycle, is_plainly_least
from tests.helpers import line, lots_of, plain_lots, plainly_takes, refuses, refuses_each, some_readers
from wholebyparts.errors import InvalidOperation, InvalidReader, TooMany
from wholebyparts.read.making import alike_answer, backward, behind, both, either, guessed, is_alike_answer, least, led
from wholebyparts.read.making import opposite
from wholebyparts.read.readers import Reader

EVEN, ENDS = Reader(2, ((0, 1), (1, 0)), (0,)), Reader(2, ((0, 1), (0, 1)), (1,))
ALL, NOTHING = Reader(2, ((0, 0),), (0,)), Reader(2, ((0, 0),), ())
# Some states of it are never met, others are alike.
LOOSE = Reader(2, ((1, 2), (2, 1), (1, 2), (3, 0)), (1, 2, 3))
SPECIAL = [EVEN, ENDS, ALL, NOTHING, LOOSE, Reader(2, ((1, 0), (1, 1)), (0,)), Reader(2, ((1, 1), (2, 2), (2, 2)), (1,))]
# From the state that is met first behind 0 nothing is taken, or everything.
SPECIAL += [Reader(2, ((1, 2), (1, 1), (2, 0)), (2,)), Reader(2, ((1, 2), (1, 1), (1, 3), (3, 2)), (3,)),
            Reader(2, ((1, 2), (1, 1), (2, 0)), (1, 2)), Reader(2, ((1, 2), (1, 1), (1, 3), (3, 2)), (0, 1))]


def pairs_of_readers(seed):
    found = [(one, other) for one in SPECIAL for other in SPECIAL]
    for letters in (1, 2, 3):
        readers = [reader for reader in some_readers(seed, 90) if reader.letters == letters]
        found += list(zip(readers, readers[1:]))
    return found


def from_the_end(places):
    """A reader that takes the words with a 2 so many places from their end, guessed as a 1."""
    steps = [(0, 0, 1)] + [(state + 1,) * 3 for state in range(1, places)] + [(places + 1,) * 3] * 2
    return Reader(3, tuple(steps), (places,))


class Made(unittest.TestCase):
    def test_both_and_either(self):
        for one, other in pairs_of_readers(81):
            def step(pair, letter):
                return (one.steps[pair[0]][letter], other.steps[pair[1]][letter])
            check_takes(self, both(one, other), (0, 0), step,
                        lambda pair: pair[0] in one.accepting and pair[1] in other.accepting)
            check_takes(self, either(one, other), (0, 0), step,
                        lambda pair: pair[0] in one.accepting or pair[1] in other.accepting)

    def test_opposite_and_least(self):
        for reader in SPECIAL + some_readers(82, 120):
            def step(state, letter):
                return reader.steps[state][letter]
            check_takes(self, least(reader), 0, step, lambda state: state in reader.accepting)
            check_takes(self, opposite(reader), 0, step, lambda state: state not in reader.accepting)
            self.assertTrue(least(least(reader)) == least(reader) == opposite(opposite(reader)))
        self.assertTrue(least(LOOSE) == Reader(2, ((1, 1), (1, 1)), (1,)))

    def test_least_of_many_states(self):
        for states in (511, 512):
            self.assertTrue(least(cycle(states)) == cycle(states))
            self.assertTrue(least(line(states, (states - 1,))) == line(states, (states - 1,)))
            self.assertEqual(opposite(cycle(states)).states, states)
        self.assertTrue(least(cycle(512, tuple(range(0, 512, 2)))) == cycle(2))
        self.assertTrue(least(cycle(512, tuple(range(512)), 64)) == Reader(64, ((0,) * 64,), (0,)))
        self.assertTrue(least(Reader(1, ((0,),) * 512, (0, 511))) == Reader(1, ((0,),), (0,)))

    def test_led(self):
        for reader in SPECIAL + some_readers(83, 40):
            tables = [table for many in (1, 2, 3) for table in product(range(reader.letters), repeat=many)]
            for table in [*tables, (reader.letters - 1,) * 64]:
                check_takes(self, led(reader, table), 0, lambda state, letter: reader.steps[state][table[letter]],
                            lambda state: state in reader.accepting)

    def test_guessed(self):
        for reader in SPECIAL + some_readers(84, 30):
            lots = lots_of(range(reader.letters))
            for table in [*product(lots, repeat=1), *product(lots, repeat=2), (lots[-1],) * 64, (*lots, *lots)]:
                def step(states, letter):
                    return frozenset(reader.steps[state][old] for state in states for old in table[letter])
                check_takes(self, guessed(reader, table), frozenset([0]), step,
                            lambda states: any(state in reader.accepting for state in states))

    def test_guessed_words(self):
        for reader in some_readers(85, 20):
            table = tuple(lots_of(range(reader.letters)))[-3:]
            told = guessed(reader, table)
            for word in all_words(len(table), 4):
                readings = product(*[table[letter] for letter in word])
                self.assertIs(plainly_takes(told, word), any(plainly_takes(reader, one) for one in readings))

    def test_behind(self):
        for one, other in pairs_of_readers(86):
            def begun(state, states):
                return (state, states | {0} if state in one.accepting else states)

            def step(thing, letter):
                states = frozenset(other.steps[state][letter] for state in thing[1])
                return begun(one.steps[thing[0]][letter], states)
            check_takes(self, behind(one, other), begun(0, frozenset()), step,
                        lambda thing: any(state in other.accepting for state in thing[1]))

    def test_behind_words(self):
        for one, other in pairs_of_readers(87)[::5]:
            told = behind(one, other)
            for word in all_words(one.letters, 4):
                cuts = [(word[:cut], word[cut:]) for cut in range(len(word) + 1)]
                wanted = any(plainly_takes(one, first) and plainly_takes(other, second) for first, second in cuts)
                self.assertIs(plainly_takes(told, word), wanted)

    def test_backward(self):
        for reader in SPECIAL + some_readers(88, 120):
            told = backward(reader)
            self.assertTrue(is_plainly_least(told))
            for word in all_words(reader.letters, 5):
                self.assertIs(plainly_takes(told, word), plainly_takes(reader, word[::-1]))
            self.assertTrue(backward(told) == least(reader))


class Bounds(unittest.TestCase):
    def test_512_states(self):
        self.assertEqual(both(cycle(16), cycle(32)).states, 32)
        self.assertEqual(both(cycle(512), cycle(512)).states, 512)
        self.assertEqual(both(cycle(7), cycle(73)).states, 511)
        self.assertEqual(either(cycle(7), cycle(73)).states, 511)
        for call in (both, either):
            refuses(self, TooMany, 512, call, cycle(19), cycle(27))
            refuses(self, TooMany, 512, call, cycle(511), cycle(512))
        lots = ((0,), (1, 2))
        self.assertEqual(guessed(from_the_end(9), lots).states, 512)
        refuses(self, TooMany, 512, guessed, from_the_end(10), lots)
        refuses(self, TooMany, 512, guessed, from_the_end(12), lots)
        self.assertEqual(behind(line(256, (255,)), line(257, (256,))).states, 512)
        refuses(self, TooMany, 512, behind, line(257, (256,)), line(257, (256,)))

    def test_many_pairs(self):
        chooser = Chooser(80)
        for letters in (1, 2, 64):
            one, other = chooser.reader(letters, 512), chooser.reader(letters, 512)
            for call in (both, either):
                if letters > 1:
                    refuses(self, TooMany, 512, call, one, other)
            self.assertTrue(both(one, one) == either(one, one) == least(one))
        # Many pairs of states, but few lots of alike ones.
        first, second = cycle(480, (0, 240), 3), cycle(510, (0,), 3)
        self.assertTrue(both(first, Reader(3, ((0, 0, 0),), (0,))) == cycle(240, (0,), 3))
        self.assertTrue(both(cycle(480), cycle(510, (1,))) == Reader(1, ((0,),), ()))
        self.assertTrue(either(opposite(cycle(480)), opposite(cycle(510, (1,)))) == Reader(1, ((0,),), (0,)))
        refuses(self, TooMany, 512, both, first, second)
        refuses(self, TooMany, 512, either, first, second)

    def test_backward_of_many_states(self):
        # Backward, the letter 1 stands at a place from the end.
        for places, states in ((8, 256), (9, 512)):
            steps = [(state + 1, state + 1) for state in range(places - 1)] + [(places + 1, places)]
            steps += [(places, places), (places + 1, places + 1)]
            reader = Reader(2, tuple(steps), (places,))
            self.assertEqual(backward(reader).states, states)
            self.assertTrue(backward(backward(reader)) == least(reader))
        steps = [(state + 1, state + 1) for state in range(9)] + [(11, 10), (10, 10), (11, 11)]
        refuses(self, TooMany, 512, backward, Reader(2, tuple(steps), (10,)))

    def test_more_states_on_the_way(self):
        self.assertTrue(both(cycle(60), cycle(58, (1,))) == Reader(1, ((0,),), ()))
        self.assertTrue(either(cycle(60, tuple(range(1, 60))), cycle(58, (*range(1), *range(2, 58)))) == Reader(1, ((0,),), (0,)))


class Alike(unittest.TestCase):
    def test_answers(self):
        for one, other in pairs_of_readers(89):
            found = alike_answer(one, other)
            self.assertIs(is_alike_answer(one, other, found), True)
            unlike = [word for word in all_words(one.letters, 4 if one.letters > 2 else 8)
                      if plainly_takes(one, word) != plainly_takes(other, word)]
            self.assertEqual(found[0], "word" if not least(one) == least(other) else "alike")
            for word in all_words(one.letters, 4):
                self.assertIs(is_alike_answer(one, other, ("word", word)), word in unlike)
            if unlike:
                self.assertEqual(found, ("word", unlike[0]))

    def test_long_words(self):
        long = alike_answer(line(512, (511,)), line(1, ()))
        self.assertEqual(long, ("word", (0,) * 511))
        self.assertEqual(alike_answer(cycle(512, (511,)), cycle(511, (510,))), ("word", (0,) * 510))
        self.assertIs(is_alike_answer(line(512, (511,)), line(1, ()), ("word", (0,) * 2000)), True)
        self.assertIs(is_alike_answer(line(512, (511,)), line(1, ()), ("word", (0,) * 2001)), False)
        self.assertEqual(len(alike_answer(cycle(30, tuple(range(30))), cycle(31, tuple(range(31))))[1]), 930)

    def test_near_pairs(self):
        twice = Reader(2, ((0, 1), (1, 2), (2, 3), (3, 0)), (0, 2))
        found = alike_answer(EVEN, twice)[1]
        self.assertEqual(found, ((0, 0), (0, 2), (1, 1), (1, 3)))
        for index, pair in enumerate(found):
            rest = found[:index] + found[index + 1:]
            near = [rest, found + (pair,), found[:index] + (pair, *found[index:]), rest + (pair,) if index < 3 else rest,
                    found[:index] + (list(pair),) + found[index + 1:], found[:index] + ((*pair, 0),) + found[index + 1:],
                    found[:index] + (pair[:1],) + found[index + 1:],
                    tuple(sorted((*found, (pair[0], (pair[1] + 1) % 4))))]
            near += [found[:index] + ((wrong, pair[1]),) + found[index + 1:] for wrong in (True, False, None, -1, 2, "0")]
            near += [found[:index] + ((pair[0], wrong),) + found[index + 1:] for wrong in (True, False, None, -1, 4, [0])]
            for value in near:
                self.assertIs(is_alike_answer(EVEN, twice, ("alike", value)), False, value)
        self.assertIs(is_alike_answer(EVEN, twice, ("alike", found)), True)
        for value in (list(found), (), found[::-1], *WRONG):
            self.assertIs(is_alike_answer(EVEN, twice, ("alike", value)), False)

    def test_more_pairs(self):
        # Pairs that are never met may stand in the answer, if letters lead to such pairs only.
        one, other = Reader(1, ((0,), (1,)), (0,)), Reader(1, ((0,), (1,)), (0,))
        self.assertEqual(alike_answer(one, other), ("alike", ((0, 0),)))
        self.assertIs(is_alike_answer(one, other, ("alike", ((0, 0), (1, 1)))), True)
        self.assertIs(is_alike_answer(one, other, ("alike", ((0, 0), (0, 1)))), False)
        self.assertIs(is_alike_answer(one, other, ("alike", ((1, 1),))), False)
        self.assertIs(is_alike_answer(one, Reader(1, ((0,),), (0,)), ("alike", ((0, 0),))), True)

    def test_near_words(self):
        for value in NO_WORDS:
            self.assertIs(is_alike_answer(EVEN, ENDS, ("word", value)), value == ())
        word = alike_answer(EVEN, ENDS)[1]
        self.assertEqual(word, ())
        for value in (("alike", ()), ("word",), ("word", (), ()), ["word", ()], ("words", ()), (b"word", ()), ("word", (1,))):
            self.assertIs(is_alike_answer(EVEN, ENDS, value), value == ("word", (1,)))
        accepts_all(self, is_alike_answer, EVEN, ENDS)
        accepts_all(self, is_alike_answer, EVEN, EVEN)


class Refusals(unittest.TestCase):
    def test_readers(self):
        sides = [(0, InvalidReader, NO_READERS), (1, InvalidReader, NO_READERS)]
        for call in (both, either, behind, alike_answer):
            refuses_each(self, call, (EVEN, ENDS), sides)
            refuses(self, InvalidOperation, None, call, EVEN, cycle(2))
        refuses_each(self, is_alike_answer, (EVEN, ENDS, None), sides)
        refuses(self, InvalidOperation, None, is_alike_answer, EVEN, cycle(2), None)
        for call in (opposite, least, backward):
            refuses_each(self, call, (EVEN,), sides[:1])

    def test_tables(self):
        tables = [*WRONG, (), (2,), (-1,), (True,), (0, False), [0], (0,) * 65, ((0,),), (0, None)]
        refuses_each(self, led, (EVEN, (0, 1)), [(0, InvalidReader, NO_READERS), (1, InvalidOperation, tables)])
        good = (((), (), ()),)
        lots = [value for value in WRONG if value not in good] + [
            (), (0,), ((1, 0),), ((0, 0),), ((2,),), ((-1,),), ((True,),), ((0, True),), ([0],), [(0,)], ((0,),) * 65]
        refuses_each(self, guessed, (EVEN, ((0,), ())), [(0, InvalidReader, NO_READERS), (1, InvalidOperation, lots)])


if __name__ == "__main__":
    unittest.main()
