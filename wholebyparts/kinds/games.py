"""Games between two structures: books for the second player, trees of moves for the first one."""

from wholebyparts.checks import MOST_MEMBERS, check_index, check_number, is_index
from wholebyparts.errors import InvalidBook, InvalidOperation
from wholebyparts.kinds.atoms import atom_of
from wholebyparts.kinds.books import holds_book
from wholebyparts.kinds.codes import has_equal_atoms, told_of_last
from wholebyparts.kinds.numbering import Numbering
from wholebyparts.kinds.pairs import check_alike, check_limits, check_rows, check_sides, check_signatures
from wholebyparts.part.rows import is_row
from wholebyparts.part.structures import check_structure


def _check_structures(one, other):
    check_structure(one)
    check_structure(other)
    check_signatures(one, other)


def is_book(one, other, value):
    """Whether the value is a book of one to four levels."""
    _check_structures(one, other)
    return holds_book(one, other, value)


def _is_pair(one, other, value):
    """Whether the value is a pair of rows, of the one and of the other structure."""
    return isinstance(value, tuple) and len(value) == 2 and is_row(one, value[0]) and is_row(other, value[1])


def book_answer(one, row, other, goal, depth):
    """Any book that holds the rounds from both rows, or any tree within so many rounds."""
    check_rows(one, row, other, goal, depth)
    check_limits(one, other, depth)
    numbering = Numbering(one, other)
    if numbering.is_one_kind(row, goal, depth):
        return ("book", _book(numbering, row, goal, depth))
    return ("tree", _tree(numbering, row, goal, depth))


def _book(numbering, row, goal, depth):
    """The levels for two rows of one kind of the depth."""
    levels = [((row, goal),)]
    for rounds in range(depth):
        longer = []
        for one, other in levels[0]:
            told = _replies(numbering, one, other, depth - rounds - 1)
            longer.extend([(one + (member,), other + (answer,)) for member, answer in told])
        levels = [tuple(sorted(longer)), *levels]
    return tuple(levels)


def _replies(numbering, row, goal, depth):
    """The ascending list of few pairs of elements of both sides, with each one, that keep the kinds of the depth."""
    ahead, behind = numbering.lots_behind((0, row), depth), numbering.lots_behind((1, goal), depth)
    found = []
    for key, members in ahead.items():
        answers = behind[key]
        # Of unlike many elements of one kind the last one of the fewer ones answers for the rest.
        if len(members) < len(answers):
            members = members + members[-1:] * (len(answers) - len(members))
        elif len(members) > len(answers):
            answers = answers + answers[-1:] * (len(members) - len(answers))
        found.extend(list(zip(members, answers)))
    return sorted(found)


def _tree(numbering, row, goal, depth):
    """A tree within so many rounds for two rows whose kinds of the depth are unlike."""
    sides = ((0, row), (1, goal))
    least = numbering.least_unlike(sides[0], sides[1], depth)
    if least == 0:
        return ()
    side = 0
    taken = numbering.lone_spot(sides[0], sides[1], least)
    if taken is None:
        side = 1
        taken = numbering.lone_spot(sides[1], sides[0], least)
    replies = []
    for spot in numbering.spots_behind(sides[1 - side]):
        rows = (taken[1], spot[1]) if side == 0 else (spot[1], taken[1])
        replies.append(_tree(numbering, rows[0], rows[1], least - 1))
    return (side, taken[1][-1], tuple(replies))


def is_book_answer(one, row, other, goal, depth, value):
    """Whether the value is an answer, with any book or tree."""
    check_rows(one, row, other, goal, depth)
    check_limits(one, other, depth)
    if not isinstance(value, tuple) or len(value) != 2:
        return False
    if value[0] == "book":
        levels = value[1]
        return holds_book(one, other, levels) and len(levels) == depth + 1 and (row, goal) in levels[-1]
    if value[0] != "tree":
        return False
    sides = (one.codes(), other.codes())
    return _is_tree((one.size, other.size), sides, (row, goal), depth, value[1], has_equal_atoms(sides, row, goal))


def _is_tree(sizes, sides, rows, rounds, value, is_equal):
    """Whether the value is a tree within so many rounds for two rows, whose atoms are equal or not."""
    if not isinstance(value, tuple):
        return False
    if not is_equal:
        return value == ()
    if len(value) != 3 or rounds == 0 or not is_index(value[0], 2):
        return False
    side, taken, replies = value
    if not is_index(taken, sizes[side]) or not isinstance(replies, tuple):
        return False
    if len(replies) != sizes[1 - side]:
        return False
    for answer, tree in enumerate(replies):
        longer = _with_both(rows, side, taken, answer)
        is_kept = told_of_last(sides[0], longer[0]) == told_of_last(sides[1], longer[1])
        if not _is_tree(sizes, sides, longer, rounds - 1, tree, is_kept):
            return False
    return True


def _with_both(rows, side, taken, answer):
    """Both rows with the element that is taken on the side, and the one that answers it."""
    members = (taken, answer) if side == 0 else (answer, taken)
    return (rows[0] + (members[0],), rows[1] + (members[1],))


def reply(one, other, levels, rounds, pair, side, element):
    """The least element of the other side by which the second player goes on in the book."""
    _check_structures(one, other)
    if not holds_book(one, other, levels):
        raise InvalidBook("this is no book for the structures")
    check_number(rounds, 1, len(levels) - 1)
    if not _is_pair(one, other, pair) or pair not in levels[rounds]:
        raise InvalidOperation("the pair is none of the level")
    check_index(side, 2)
    sides = (one, other)
    check_index(element, sides[side].size)
    lower = {longer: True for longer in levels[rounds - 1]}
    answers = [answer for answer in range(sides[1 - side].size) if _with_both(pair, side, element, answer) in lower]
    return answers[0]


def played(one, row, other, goal, moves):
    """Both rows behind the moves, and whether their atoms were equal all the time."""
    check_sides(one, row, other, goal)
    if not _are_moves(one, other, moves) or len(row) + len(moves) > MOST_MEMBERS:
        raise InvalidOperation("the moves are no pairs of elements, or too many")
    check_alike(one, row, other, goal)
    is_equal = atom_of(one, row) == atom_of(other, goal)
    for member, answer in moves:
        row = row + (member,)
        goal = goal + (answer,)
        is_equal = is_equal and atom_of(one, row) == atom_of(other, goal)
    return ((row, goal), is_equal)


def _are_moves(one, other, value):
    """Whether the value is a tuple of pairs of an element of the one and one of the other structure."""
    if not isinstance(value, tuple):
        return False
    for pair in value:
        if not isinstance(pair, tuple) or len(pair) != 2:
            return False
        if not is_index(pair[0], one.size) or not is_index(pair[1], other.size):
            return False
    return True
