"""Stage 6: games."""

import unittest
from itertools import product

from tests.helpers import BIG, NO_NUMBERS, NO_ROWS, NO_STRUCTURES, WRONG, Chooser, accepts_all, plain_atom, plain_kind
from tests.helpers import refuses, refuses_each, rows_with
from wholebyparts.errors import InvalidBook, InvalidNumber, InvalidOperation, InvalidRow, InvalidStructure, TooMany
from wholebyparts.kinds.games import book_answer, is_book, is_book_answer, played, reply
from wholebyparts.kinds.parting import least_depth
from wholebyparts.part.structures import Structure, renamed

TWO, THREE = Structure(2, (), (((0, 1),),)), Structure(3, (), (((0, 1), (0, 2), (1, 2)),))
BOOK = ((((0,), (0,)), ((0,), (2,)), ((1,), (1,))), (((), ()),))
TREE = (1, 1, ((1, 0, ((), ())), (1, 2, ((), ()))))
EMPTY = Structure(0, (), ((),))
# Three levels without pairs are a book.
NO_BOOKS = [value for value in WRONG if value != ((), (), ())]


def plainly_is_tree(one, row, other, goal, rounds, tree):
    """Whether the value, built like a tree, is one for the rows, by the words of the document alone."""
    if plain_atom(one, row) != plain_atom(other, goal):
        return tree == ()
    if tree == () or rounds == 0:
        return False
    side, taken, replies = tree
    if not 0 <= taken < (one, other)[side].size or len(replies) != (other, one)[side].size:
        return False
    for answer, behind in enumerate(replies):
        a, b = (taken, answer) if side == 0 else (answer, taken)
        if not plainly_is_tree(one, row + (a,), other, goal + (b,), rounds - 1, behind):
            return False
    return True


def plainly_is_book(one, other, levels):
    """Whether the levels, ascending tuples of pairs of rows, are a book, by the words of the document alone."""
    for rounds, level in enumerate(levels):
        for row, goal in level:
            if len(row) != len(goal) or len(row) > 4 - rounds or plain_atom(one, row) != plain_atom(other, goal):
                return False
            if rounds == 0:
                continue
            lower = levels[rounds - 1]
            for a in range(one.size):
                if not any((row + (a,), goal + (b,)) in lower for b in range(other.size)):
                    return False
            for b in range(other.size):
                if not any((row + (a,), goal + (b,)) in lower for a in range(one.size)):
                    return False
    return True


def all_pairs(one, row, other, goal, depth):
    """The book in which each level has all pairs of longer rows that have one kind."""
    levels = []
    for rounds in range(depth + 1):
        tails = [list(product(range(structure.size), repeat=depth - rounds)) for structure in (one, other)]
        pairs = [(row + a, goal + b) for a in tails[0] for b in tails[1]]
        levels.append(tuple(sorted(p for p in pairs if plain_kind(one, p[0], rounds) == plain_kind(other, p[1], rounds))))
    return tuple(levels)


def cases(seed, many):
    chooser = Chooser(seed)
    for _ in range(many):
        signature = (chooser.number(2), chooser.number(2))
        one = chooser.structure(chooser.number(4), signature)
        other = renamed(one, chooser.order(one.size)) if chooser.number(2) else chooser.structure(chooser.number(4), signature)
        places = chooser.number(3)
        row, goal = chooser.row(one, places), chooser.row(other, places)
        yield one, row, other, goal, chooser.number(min(3, 4 - places) + 1)


class Answers(unittest.TestCase):
    def test_answers(self):
        counted = {"book": 0, "tree": 0}
        for one, row, other, goal, depth in cases(41, 300):
            answer = book_answer(one, row, other, goal, depth)
            counted[answer[0]] += 1
            self.assertEqual(len(answer), 2)
            if plain_kind(one, row, depth) == plain_kind(other, goal, depth):
                self.assertEqual(answer[0], "book")
                self.assertEqual(len(answer[1]), depth + 1)
                self.assertIn((row, goal), answer[1][-1])
                self.assertTrue(plainly_is_book(one, other, answer[1]))
                for level in answer[1]:
                    self.assertEqual(list(level), sorted(set(level)))
                self.assertIs(is_book(one, other, answer[1]), True)
            else:
                self.assertEqual(answer[0], "tree")
                self.assertTrue(plainly_is_tree(one, row, other, goal, depth, answer[1]))
            self.assertIs(is_book_answer(one, row, other, goal, depth, answer), True)
        self.assertGreater(min(counted.values()), 20)

    def test_fewest_rounds(self):
        for one, row, other, goal, _ in cases(42, 100):
            least = least_depth(one, row, other, goal)
            if least is not None:
                answer = book_answer(one, row, other, goal, min(3, 4 - len(row)))
                self.assertTrue(plainly_is_tree(one, row, other, goal, least, answer[1]))
                self.assertIs(is_book_answer(one, row, other, goal, least, answer), True)
                if least > 0:
                    self.assertEqual(book_answer(one, row, other, goal, least - 1)[0], "book")
                    self.assertIs(is_book_answer(one, row, other, goal, least - 1, answer), False)

    def test_other_books(self):
        for one, row, other, goal, depth in cases(43, 120):
            levels = all_pairs(one, row, other, goal, depth)
            right = plain_kind(one, row, depth) == plain_kind(other, goal, depth)
            self.assertIs(is_book(one, other, levels), True)
            self.assertIs(is_book_answer(one, row, other, goal, depth, ("book", levels)), right)
            for rounds, level in enumerate(levels):
                for index in range(len(level)):
                    bent = levels[:rounds] + (level[:index] + level[index + 1:],) + levels[rounds + 1:]
                    self.assertIs(is_book(one, other, bent), plainly_is_book(one, other, bent))

    def test_edges(self):
        self.assertEqual(book_answer(EMPTY, (), EMPTY, (), 3), ("book", ((), (), (), (((), ()),))))
        self.assertEqual(book_answer(TWO, (), EMPTY, (), 2), ("tree", (0, 0, ())))
        self.assertEqual(book_answer(EMPTY, (), TWO, (), 2), ("tree", (1, 0, ())))
        self.assertEqual(book_answer(TWO, (0,), TWO, (-1,), 0), ("tree", ()))
        self.assertEqual(book_answer(TWO, (0,), TWO, (0,), 0), ("book", ((((0,), (0,)),),)))
        self.assertEqual(book_answer(TWO, (-1, 0), TWO, (-1, 0), 0), ("book", ((((-1, 0), (-1, 0)),),)))

    def test_orders(self):
        orders = [Structure(size, (), (tuple((a, b) for a in range(size) for b in range(a + 1, size)),)) for size in range(9)]
        for one, other, depth in product(orders, orders, range(4)):
            answer = book_answer(one, (), other, (), depth)
            # From 2 ** depth - 1 on, orders cannot be told apart.
            right = one.size == other.size or min(one.size, other.size) >= 2 ** depth - 1
            self.assertEqual(answer[0], "book" if right else "tree")
            self.assertIs(is_book_answer(one, (), other, (), depth, answer), True)
            if right:
                self.assertTrue(plainly_is_book(one, other, [dict.fromkeys(level) for level in answer[1]]))

    def test_large_ones(self):
        one, other = Structure(15, (), ()), Structure(12, (), ())
        answer = book_answer(one, (), other, (), 3)
        self.assertEqual(answer[0], "book")
        self.assertIs(is_book_answer(one, (), other, (), 3, answer), True)
        wide = Structure(60, (tuple(range(0, 60, 2)),), ())
        answer = book_answer(wide, (), renamed(wide, tuple(range(59, -1, -1))), (), 2)
        self.assertIs(is_book_answer(wide, (), renamed(wide, tuple(range(59, -1, -1))), (), 2, answer), True)

    def test_long_order(self):
        order = Structure(15, (), (tuple((a, b) for a in range(15) for b in range(a + 1, 15)),))
        answer = book_answer(order, (), order, (), 3)
        levels = answer[1]
        self.assertEqual((answer[0], len(levels), levels[3]), ("book", 4, (((), ()),)))
        self.assertIs(is_book(order, order, levels), True)
        self.assertIs(is_book_answer(order, (), order, (), 3, answer), True)
        for pair in levels[1][::97]:
            for side, taken in product((0, 1), (0, 7, 14)):
                replied = reply(order, order, levels, 1, pair, side, taken)
                both = (taken, replied) if side == 0 else (replied, taken)
                longer = (pair[0] + (both[0],), pair[1] + (both[1],))
                self.assertIn(longer, levels[0])
        for index in (0, 1700, len(levels[0]) - 1):
            row, goal = levels[0][index]
            for other in (goal[:2], (*goal[:2], 15), (*goal[:2], True), (*goal[:2], None), list(goal), (*goal, 0)):
                bent = levels[0][:index] + ((row, other),) + levels[0][index + 1:]
                self.assertIs(is_book(order, order, (bent, *levels[1:])), False)

    def test_long_books(self):
        # Books that took long, and larger ones, with all pairs of one kind.
        ring = Structure(6, ((0, 2),), (((0, 1), (1, 2), (2, 3), (3, 0)),))
        order = Structure(5, (), (tuple((a, b) for a in range(5) for b in range(a + 1, 5)),))
        for one, other in ((ring, ring), (ring, renamed(ring, (5, 3, 1, 0, 2, 4))), (order, order)):
            told = book_answer(one, (), other, (), 3)
            self.assertEqual(told[0], "book")
            levels = told[1]
            self.assertIs(is_book(one, other, levels), True)
            self.assertIs(is_book_answer(one, (), other, (), 3, told), True)
            wide = [list(level) for level in levels]
            for rounds in (2, 1, 0):
                rows = [tuple(row) for row in product(range(one.size), repeat=3 - rounds)]
                kinds = [[(plain_kind(side, row, rounds), row) for row in rows] for side in (one, other)]
                wide[rounds] = sorted((row, goal) for told_kind, row in kinds[0] for same, goal in kinds[1] if told_kind == same)
                self.assertTrue(set(levels[rounds]) <= set(wide[rounds]))
            wide = tuple(tuple(level) for level in wide)
            self.assertIs(is_book(one, other, wide), True)
            # Each single pair is needed, or not: as the plain judge tells.
            for place in range(0, len(levels[1]), 5):
                bent = levels[1][:place] + levels[1][place + 1:]
                self.assertIs(is_book(one, other, (levels[0], bent, *levels[2:])), False)
            for place in range(0, len(levels[0]), 37):
                bent = levels[0][:place] + levels[0][place + 1:]
                self.assertIs(is_book(one, other, (bent, *levels[1:])), False)
                row, goal = levels[0][place]
                for member in (True, None, -2, one.size, "0"):
                    bent = levels[0][:place] + (((*row[:2], member), goal),) + levels[0][place + 1:]
                    self.assertIs(is_book(one, other, (bent, *levels[1:])), False)

    def test_kinds_limit(self):
        fifteen, sixteen, marked = Structure(15, (), ()), Structure(16, (), ()), Structure(16, ((),), ())
        for one, other in ((sixteen, fifteen), (fifteen, sixteen)):
            refuses(self, TooMany, 4096, book_answer, one, (), other, (), 3)
            refuses(self, TooMany, 4096, is_book_answer, one, (), other, (), 3, None)
            self.assertEqual(book_answer(one, (), other, (), 1)[0], "book")
        refuses(self, InvalidOperation, None, book_answer, fifteen, (), marked, (), 3)

    def test_refusals(self):
        rows = [*NO_ROWS, (2,), (0, 2), (True,), [0]]
        wrong = [(0, InvalidStructure, NO_STRUCTURES), (1, InvalidRow, rows), (2, InvalidStructure, NO_STRUCTURES),
                 (3, InvalidRow, rows)]
        depths = (4, InvalidNumber, [*NO_NUMBERS, 3, 4])
        good = (TWO, (0, -1), TWO, (1, 1))
        refuses_each(self, book_answer, (*good, 2), [*wrong, depths])
        refuses_each(self, is_book_answer, (*good, 2, None), [*wrong, depths])
        for other, goal in ((Structure(2, (), ()), (0,)), (Structure(2, ((),), ((),)), (0,)), (TWO, ()), (TWO, (0, 0))):
            refuses(self, InvalidOperation, None, book_answer, TWO, (0,), other, goal, 1)
            refuses(self, InvalidOperation, None, is_book_answer, TWO, (0,), other, goal, 1, None)
        refuses(self, InvalidNumber, 3, book_answer, TWO, (), TWO, (0, 0), 3)


class Books(unittest.TestCase):
    def test_one(self):
        self.assertIs(is_book(TWO, THREE, BOOK), True)
        self.assertIs(is_book(THREE, TWO, BOOK), False)
        self.assertIs(is_book(TWO, THREE, ((),)), True)
        self.assertIs(is_book(TWO, THREE, ((), (), (), ())), True)
        self.assertIs(is_book(TWO, THREE, ()), False)
        self.assertIs(is_book(TWO, THREE, ((), (), (), (), ())), False)

    def test_how_many_members(self):
        none = Structure(0, (), ())
        for rounds in range(4):
            for members in range(6):
                pair = ((-1,) * members, (-1,) * members)
                self.assertIs(is_book(none, none, ((),) * rounds + ((pair,),)), members + rounds <= 4)

    def test_members_out_of_bounds(self):
        # Nothing is told of these elements: each pair of equal rows, or of rows of unlike ones, is a level.
        one, other = Structure(3, (), ()), Structure(4, (), ())
        for row in ((0,), (2, 1), (0, 2, -1), (1, 1, 1, 0), (2, 0, 2, 1)):
            self.assertIs(is_book(one, other, (((row, row),),)), True)
            for place in range(len(row)):
                for wrong in (-2, -3, -4, 3, 4, 5, BIG, -BIG, True, False, None, "0", (0,), [0]):
                    bent = row[:place] + (wrong,) + row[place + 1:]
                    self.assertIs(is_book(one, other, (((bent, row),),)), False)
                    self.assertIs(is_book(one, other, (((bent, bent),),)), False)
                    is_right = wrong == 3 and plain_atom(one, row) == plain_atom(other, bent)
                    self.assertIs(is_book(one, other, (((row, bent),),)), is_right)
            for bent in (row[:-1], (*row, 0), list(row), (row,), None, 0):
                self.assertIs(is_book(one, other, (((bent, row),),)), False)
                self.assertIs(is_book(one, other, (((row, bent),),)), False)

    def test_near_ones(self):
        first, last = BOOK
        near = [
            (first[:2], last), (first[1:], last), (first[::-1], last), ((*first, first[2]), last), (first, last, ()[:0], last),
            (first, (((0,), (0,)),)), (first, [((), ())]), [first, last], (list(first), last), (first, (((),),)),
            (first, (((), (), ()),)), (first, (([], []),)), ((((False,), (0,)), *first[1:]), last), (first, last[0]),
            ((*first[:2], ((True,), (1,))), last), ((*first[:2], ((1,), (True,))), last), ((*first, ((1,), (3,))), last),
            ((*first, ((1,), (2, 2))), last), ((*first, ((1, 1), (2,))), last), ((((0,), (-1,)), *first), last), (last, first),
        ]
        accepts_all(self, is_book, TWO, THREE, values=[*NO_BOOKS, *near])
        more = ((((-1,), (-1,)), *first, ((1,), (2,))), last)
        self.assertIs(is_book(TWO, THREE, more), True)
        self.assertIs(is_book(TWO, THREE, (first, (), ())), True)
        self.assertIs(is_book(TWO, THREE, (first, last, last)), False)

    def test_rows_of_unlike_lengths(self):
        one = Structure(1, (), ())
        self.assertIs(is_book(one, one, ((((0,), (0,)),),)), True)
        for pair in (((0,), ()), ((), (0,)), ((0,), (0, -1)), ((0, 0), (0,))):
            self.assertIs(is_book(one, one, ((pair,),)), False)

    def test_none_is_no_reply(self):
        one, none = Structure(1, (), ()), Structure(0, (), ())
        self.assertIs(is_book(one, none, ((((0,), (-1,)),), (((), ()),))), False)
        self.assertIs(is_book(one, one, ((((-1,), (-1,)),), (((), ()),))), False)
        self.assertIs(is_book(none, none, ((), (((), ()),))), True)

    def test_judged_answers(self):
        near = [("book", BOOK, ()), ["book", BOOK], ("tree", BOOK), ("book", TREE), ("Tree", TREE), ("book",), BOOK, ("book", (*BOOK, ())),
                ("book", BOOK[:1]), ("book", (BOOK[0], ())), ("Book", BOOK), ("book", list(BOOK))]
        self.assertIs(is_book_answer(TWO, (), THREE, (), 1, ("book", BOOK)), True)
        accepts_all(self, is_book_answer, TWO, (), THREE, (), 1, values=[*WRONG, *near])
        accepts_all(self, is_book_answer, TWO, (), THREE, (), 0, values=[("book", BOOK)])
        accepts_all(self, is_book_answer, TWO, (), THREE, (), 2, values=[("book", BOOK), ("book", (*BOOK, BOOK[1]))])

    def test_judged_trees(self):
        for depth in range(4):
            self.assertIs(is_book_answer(TWO, (), THREE, (), depth, ("tree", TREE)), depth >= 2)
        accepts_all(self, is_book_answer, TWO, (), THREE, (), 2, values=[("Tree", TREE), (None, TREE), ("tree", TREE, ()), TREE])
        near = [(), (1, 1), (1, 1, ()), (1, 1, TREE[2][:1]), (1, 1, (*TREE[2], ())), (1, 1, ((), ())), (0, 1, TREE[2]),
                (1, 0, TREE[2]), (1, 3, TREE[2]), (1, -1, TREE[2]), (2, 1, TREE[2]), (-1, 1, TREE[2]), (True, 1, TREE[2]),
                (1, True, TREE[2]), (1, 1, list(TREE[2])), [1, 1, TREE[2]], (1, 1, TREE[2][::-1]), (1, 1, TREE[2], ()),
                (1, 1, ((1, 0, ((), TREE)), TREE[2][1])), (1, 1, ((1, 0, ([], ())), TREE[2][1])), (1, BIG, TREE[2]),
                (1, 1, ((1, False, ((), ())), TREE[2][1])), (1, 1, ((1, 0, ((), None)), TREE[2][1])), None]
        accepts_all(self, is_book_answer, TWO, (), THREE, (), 2, values=[*WRONG, *[("tree", tree) for tree in near]])
        # Unlike atoms have one tree.
        self.assertIs(is_book_answer(TWO, (0,), THREE, (-1,), 2, ("tree", ())), True)
        accepts_all(self, is_book_answer, TWO, (0,), THREE, (-1,), 2, values=[("tree", (1, 1, ((), ()))), ("tree", None), ("tree", [])])
        self.assertIs(is_book_answer(TWO, (), EMPTY, (), 1, ("tree", (0, 1, ()))), True)
        self.assertIs(is_book_answer(TWO, (), EMPTY, (), 1, ("tree", (1, 0, ((), ())))), False)
        # A longer way than needed is a tree, too, if it parts the rows at last.
        slow = (0, 0, (TREE_BEHIND, TREE_BEHIND, TREE_BEHIND))
        right = plainly_is_tree(TWO, (), THREE, (), 3, slow)
        self.assertIs(is_book_answer(TWO, (), THREE, (), 3, ("tree", slow)), right)

    def test_no_tree_for_alike_rows(self):
        for one, row, other, goal, depth in cases(44, 100):
            for tree in ((), (0, 0, ((),) * other.size), (1, 0, ((),) * one.size)):
                right = plainly_is_tree(one, row, other, goal, depth, tree)
                self.assertIs(is_book_answer(one, row, other, goal, depth, ("tree", tree)), right)
                if right:
                    self.assertEqual(book_answer(one, row, other, goal, depth)[0], "tree")

    def test_refusals(self):
        wrong = [(0, InvalidStructure, NO_STRUCTURES), (1, InvalidStructure, NO_STRUCTURES)]
        refuses_each(self, is_book, (TWO, THREE, BOOK), wrong)
        refuses(self, InvalidOperation, None, is_book, TWO, Structure(3, (), ()), BOOK)


TREE_BEHIND = (1, 1, ((), ()))


class Reply(unittest.TestCase):
    def test_goes_on(self):
        for one, row, other, goal, depth in cases(45, 120):
            levels = all_pairs(one, row, other, goal, depth)
            for rounds in range(1, depth + 1):
                for pair in levels[rounds][:6]:
                    for side in (0, 1):
                        for taken in range((one, other)[side].size):
                            found = reply(one, other, levels, rounds, pair, side, taken)
                            right = []
                            for answer in range((other, one)[side].size):
                                a, b = (taken, answer) if side == 0 else (answer, taken)
                                if (pair[0] + (a,), pair[1] + (b,)) in levels[rounds - 1]:
                                    right.append(answer)
                            self.assertEqual(found, right[0])

    def test_least(self):
        self.assertEqual([reply(TWO, THREE, BOOK, 1, ((), ()), 0, a) for a in (0, 1)], [0, 1])
        self.assertEqual([reply(TWO, THREE, BOOK, 1, ((), ()), 1, b) for b in (0, 1, 2)], [0, 1, 0])

    def test_refusals(self):
        good = (TWO, THREE, BOOK, 1, ((), ()), 1, 2)
        pairs = [*WRONG, ((0,), (0,)), [(), ()], ((), []), ((),), ((), (), ())]
        wrong = [(0, InvalidStructure, NO_STRUCTURES), (1, InvalidStructure, NO_STRUCTURES),
                 (2, InvalidBook, [*NO_BOOKS, (BOOK[0][:2], BOOK[1])]), (3, InvalidNumber, [*NO_NUMBERS, 0, 2]),
                 (4, InvalidOperation, pairs), (5, InvalidNumber, [*NO_NUMBERS, 2]), (6, InvalidNumber, [*NO_NUMBERS, 3])]
        refuses_each(self, reply, good, wrong)
        refuses(self, InvalidNumber, 2, reply, TWO, THREE, BOOK, 1, ((), ()), 0, 2)
        refuses(self, InvalidNumber, 1, reply, TWO, THREE, BOOK[:1], 1, ((), ()), 0, 0)
        refuses(self, InvalidOperation, None, reply, TWO, Structure(3, (), ()), None, None, None, None, None)
        # In a level that has the pair, False is not 0.
        one = Structure(1, (), ())
        levels = ((((0, 0), (0, 0)),), (((0,), (0,)),))
        self.assertEqual(reply(one, one, levels, 1, ((0,), (0,)), 0, 0), 0)
        refuses(self, InvalidOperation, None, reply, one, one, levels, 1, ((False,), (0,)), 0, 0)


class Played(unittest.TestCase):
    def test_played(self):
        for one, row, other, goal, _ in cases(46, 200):
            for moves in product(product(range(one.size), range(other.size)), repeat=min(2, 4 - len(row))):
                rows = (row + tuple(a for a, _ in moves), goal + tuple(b for _, b in moves))
                equal = [plain_atom(one, rows[0][:n]) == plain_atom(other, rows[1][:n]) for n in range(len(row), len(rows[0]) + 1)]
                self.assertEqual(played(one, row, other, goal, moves), (rows, all(equal)))

    def test_once_unlike_stays_unlike(self):
        one, other = Structure(2, ((0,),), ()), Structure(2, ((1,),), ())
        self.assertEqual(played(one, (), other, (), ()), (((), ()), True))
        self.assertEqual(played(one, (), other, (), ((0, 1),)), (((0,), (1,)), True))
        self.assertEqual(played(one, (), other, (), ((0, 0), (0, 1))), (((0, 0), (0, 1)), False))
        self.assertEqual(played(one, (0,), other, (-1,), ()), (((0,), (-1,)), False))
        self.assertIs(played(one, (0, 1), other, (1, 0), ((0, 1), (1, 0)))[1], True)

    def test_refusals(self):
        rows = [*NO_ROWS, (2,), (0, 2), (True,), [0]]
        moves = [*[x for x in WRONG if x != ()], ((0, 1),) * 3, ((0,),), ((2, 0),), ((0, 3),), ((-1, 0),), ((0, -1),), ((True, 0),),
                 ((0, False),), ([0, 0],), [(0, 0)], ((0, 0, 0),)]
        wrong = [(0, InvalidStructure, NO_STRUCTURES), (1, InvalidRow, rows), (2, InvalidStructure, NO_STRUCTURES),
                 (3, InvalidRow, [*NO_ROWS, (3,), [0]]), (4, InvalidOperation, moves)]
        refuses_each(self, played, (TWO, (0, -1), THREE, (2, 1), ((1, 2), (0, 0))), wrong)
        for other, goal in ((Structure(2, (), ()), (0,)), (TWO, ()), (TWO, (0, 0))):
            refuses(self, InvalidOperation, None, played, TWO, (0,), other, goal, ())
        self.assertEqual(len(rows_with(TWO, 2)), 9)
        self.assertEqual(played(TWO, (0, 0, 0, 0), TWO, (1, 1, 1, 1), ())[1], True)
        refuses(self, InvalidOperation, None, played, TWO, (0, 0, 0, 0), TWO, (1, 1, 1, 1), ((0, 0),))


if __name__ == "__main__":
    unittest.main()
