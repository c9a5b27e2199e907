"""Games between two structures: books for the second player, trees of moves for the first one."""

from wholebyparts.checks import MOST_MEMBERS, ascending, check_index, check_number, is_ascending, is_index
from wholebyparts.errors import InvalidBook, InvalidOperation
from wholebyparts.kinds.atoms import atom_of
from wholebyparts.kinds.numbering import Numbering
from wholebyparts.kinds.pairs import check_alike, check_limits, check_rows, check_sides, check_signatures
from wholebyparts.part.rows import NONE, is_row
from wholebyparts.part.structures import check_structure

MOST_LEVELS = 4


def _check_structures(one, other):
    check_structure(one)
    check_structure(other)
    check_signatures(one, other)


def is_book(one, other, value):
    """Whether the value is a book of one to four levels."""
    _check_structures(one, other)
    return _holds_book(one, other, value)


def _holds_book(one, other, value):
    if not isinstance(value, tuple) or not 1 <= len(value) <= MOST_LEVELS:
        return False
    if not all([_is_level(one, other, rounds, level) for rounds, level in enumerate(value)]):
        return False
    return all([_is_held(one, other, level, lower) for lower, level in zip(value, value[1:])])


def _is_level(one, other, rounds, value):
    """Whether the value is an ascending tuple of pairs of rows with equal atoms, for so many rounds."""
    if not isinstance(value, tuple):
        return False
    for pair in value:
        if not _is_pair(one, other, pair) or len(pair[0]) > MOST_MEMBERS - rounds:
            return False
        if atom_of(one, pair[0]) != atom_of(other, pair[1]):
            return False
    return is_ascending(value)


def _is_pair(one, other, value):
    """Whether the value is a pair of equally long rows, of the one and of the other structure."""
    if not isinstance(value, tuple) or len(value) != 2:
        return False
    return is_row(one, value[0]) and is_row(other, value[1]) and len(value[0]) == len(value[1])


def _is_held(one, other, level, lower):
    """Whether for each pair of the level, and each element behind, the lower level has a reply."""
    taken, replied = {}, {}
    for row, goal in lower:
        if row and row[-1] != NONE:
            pair = (row[:-1], goal[:-1])
            taken.setdefault(pair, {})[row[-1]] = True
            replied.setdefault(pair, {})[goal[-1]] = True
    for pair in level:
        if len(taken.get(pair, {})) < one.size or len(replied.get(pair, {})) < other.size:
            return False
    return True


def book_answer(one, row, other, goal, depth):
    """Any book that holds the rounds from both rows, or any tree within so many rounds."""
    check_rows(one, row, other, goal, depth)
    check_limits(one, other, depth)
    numbering = Numbering(one, other)
    if numbering.is_one_kind(row, goal, depth):
        return ("book", _book(numbering, row, goal, depth))
    return ("tree", _tree(numbering, row, goal, depth))


def _book(numbering, row, goal, depth):
    """The levels for two rows of one kind of the depth."""
    levels = [((row, goal),)]
    for rounds in range(depth):
        found = []
        for pair in levels[0]:
            found.extend(_pairs_behind(numbering, pair, depth - rounds - 1))
        levels = [ascending(found), *levels]
    return tuple(levels)


def _pairs_behind(numbering, pair, depth):
    """Each element of each side behind the row, with a reply that keeps the kinds of the depth."""
    spots = [numbering.spots_behind((side, pair[side])) for side in (0, 1)]
    found = []
    for side in (0, 1):
        replies = {}
        for spot in spots[1 - side]:
            replies.setdefault(numbering.number(spot, depth), spot[1])
        for spot in spots[side]:
            answer = replies[numbering.number(spot, depth)]
            found.append((spot[1], answer) if side == 0 else (answer, spot[1]))
    return found


def _tree(numbering, row, goal, depth):
    """A tree within so many rounds for two rows whose kinds of the depth are unlike."""
    sides = ((0, row), (1, goal))
    least = numbering.least_unlike(sides[0], sides[1], depth)
    if least == 0:
        return ()
    side = 0
    taken = numbering.lone_spot(sides[0], sides[1], least)
    if taken is None:
        side = 1
        taken = numbering.lone_spot(sides[1], sides[0], least)
    replies = []
    for spot in numbering.spots_behind(sides[1 - side]):
        rows = (taken[1], spot[1]) if side == 0 else (spot[1], taken[1])
        replies.append(_tree(numbering, rows[0], rows[1], least - 1))
    return (side, taken[1][-1], tuple(replies))


def is_book_answer(one, row, other, goal, depth, value):
    """Whether the value is an answer, with any book or tree."""
    check_rows(one, row, other, goal, depth)
    check_limits(one, other, depth)
    if not isinstance(value, tuple) or len(value) != 2:
        return False
    if value[0] == "book":
        levels = value[1]
        return _holds_book(one, other, levels) and len(levels) == depth + 1 and (row, goal) in levels[-1]
    return value[0] == "tree" and _is_tree((one, other), (row, goal), depth, value[1])


def _is_tree(sides, rows, rounds, value):
    """Whether the value is a tree for the rows, one of each side, within so many rounds."""
    if not isinstance(value, tuple):
        return False
    if atom_of(sides[0], rows[0]) != atom_of(sides[1], rows[1]):
        return value == ()
    if len(value) != 3 or rounds == 0 or not is_index(value[0], 2):
        return False
    side, taken, replies = value
    if not is_index(taken, sides[side].size) or not isinstance(replies, tuple):
        return False
    if len(replies) != sides[1 - side].size:
        return False
    for answer, tree in enumerate(replies):
        if not _is_tree(sides, _with_both(rows, side, taken, answer), rounds - 1, tree):
            return False
    return True


def _with_both(rows, side, taken, answer):
    """Both rows with the element that is taken on the side, and the one that answers it."""
    members = (taken, answer) if side == 0 else (answer, taken)
    return (rows[0] + (members[0],), rows[1] + (members[1],))


def reply(one, other, levels, rounds, pair, side, element):
    """The least element of the other side by which the second player goes on in the book."""
    _check_structures(one, other)
    if not _holds_book(one, other, levels):
        raise InvalidBook("this is no book for the structures")
    check_number(rounds, 1, len(levels) - 1)
    if not _is_pair(one, other, pair) or pair not in levels[rounds]:
        raise InvalidOperation("the pair is none of the level")
    check_index(side, 2)
    sides = (one, other)
    check_index(element, sides[side].size)
    lower = levels[rounds - 1]
    answers = [answer for answer in range(sides[1 - side].size) if _with_both(pair, side, element, answer) in lower]
    return answers[0]


def played(one, row, other, goal, moves):
    """Both rows behind the moves, and whether their atoms were equal all the time."""
    check_sides(one, row, other, goal)
    if not _are_moves(one, other, moves) or len(row) + len(moves) > MOST_MEMBERS:
        raise InvalidOperation("the moves are no pairs of elements, or too many")
    check_alike(one, row, other, goal)
    is_equal = atom_of(one, row) == atom_of(other, goal)
    for member, answer in moves:
        row = row + (member,)
        goal = goal + (answer,)
        is_equal = is_equal and atom_of(one, row) == atom_of(other, goal)
    return ((row, goal), is_equal)


def _are_moves(one, other, value):
    """Whether the value is a tuple of pairs of an element of the one and one of the other structure."""
    if not isinstance(value, tuple):
        return False
    for pair in value:
        if not isinstance(pair, tuple) or len(pair) != 2:
            return False
        if not is_index(pair[0], one.size) or not is_index(pair[1], other.size):
            return False
    return True
