"""Games between two structures: books for the second player, trees of moves for the first one."""

from wholebyparts.checks import MOST_MEMBERS, are_integers, are_pairs, check_index, check_number, is_ascending, is_index
from wholebyparts.errors import InvalidBook, InvalidOperation
from wholebyparts.kinds.atoms import atom_of
from wholebyparts.kinds.codes import has_equal_atoms, told_behind, told_of_last
from wholebyparts.kinds.numbering import Numbering
from wholebyparts.kinds.pairs import check_alike, check_limits, check_rows, check_sides, check_signatures
from wholebyparts.part.rows import NONE, is_row
from wholebyparts.part.structures import check_structure

MOST_LEVELS = 4


def _check_structures(one, other):
    check_structure(one)
    check_structure(other)
    check_signatures(one, other)


def is_book(one, other, value):
    """Whether the value is a book of one to four levels."""
    _check_structures(one, other)
    return _holds_book(one, other, value)


def _holds_book(one, other, value):
    if not isinstance(value, tuple) or not 1 <= len(value) <= MOST_LEVELS:
        return False
    if not all([_is_level(one, other, rounds, level) for rounds, level in enumerate(value)]):
        return False
    return all([_is_held(one, other, level, lower) for lower, level in zip(value, value[1:])])


def _is_level(one, other, rounds, value):
    """Whether the value is an ascending tuple of pairs of rows with equal atoms, for so many rounds."""
    if not isinstance(value, tuple) or not are_pairs(value):
        return False
    rows, goals = [row for row, _ in value], [goal for _, goal in value]
    if not _are_rows(one, rounds, rows) or not _are_rows(other, rounds, goals) or not is_ascending(value):
        return False
    return _have_equal_atoms(one, other, value)


def _are_rows(structure, rounds, values):
    """Whether all of the values are rows of the structure, so short that so many rounds can follow."""
    if [row for row in values if type(row) is not tuple or len(row) > MOST_MEMBERS - rounds]:
        return False
    members = [member for row in values for member in row]
    return are_integers(members) and (not members or (min(members) >= NONE and max(members) < structure.size))


def _have_equal_atoms(one, other, pairs):
    """Whether both rows of each pair are equally long, and have equal atoms."""
    sides = (one.codes(), other.codes())
    # Many rows begin alike: beginnings are compared once, and what is told behind them stands in lists, none last.
    known = {}
    lists = ({}, {})
    for row, goal in pairs:
        if len(row) != len(goal):
            return False
        if not row:
            continue
        ahead, others = row[:-1], goal[:-1]
        if (ahead, others) not in known:
            known[(ahead, others)] = has_equal_atoms(sides, ahead, others)
            lists[0][ahead] = [*told_behind(sides[0], ahead), ()]
            lists[1][others] = [*told_behind(sides[1], others), ()]
        if not known[(ahead, others)] or lists[0][ahead][row[-1]] != lists[1][others][goal[-1]]:
            return False
    return True


def _is_pair(one, other, value):
    """Whether the value is a pair of rows, of the one and of the other structure."""
    return isinstance(value, tuple) and len(value) == 2 and is_row(one, value[0]) and is_row(other, value[1])


def _is_held(one, other, level, lower):
    """Whether for each pair of the level, and each element behind, the lower level has a reply."""
    taken, replied = {}, {}
    for row, goal in lower:
        if row and row[-1] != NONE:
            pair = (row[:-1], goal[:-1])
            taken[pair] = taken.get(pair, 0) | 1 << row[-1]
            replied[pair] = replied.get(pair, 0) | 1 << goal[-1]
    every = ((1 << one.size) - 1, (1 << other.size) - 1)
    return not [pair for pair in level if (taken.get(pair, 0), replied.get(pair, 0)) != every]


def book_answer(one, row, other, goal, depth):
    """Any book that holds the rounds from both rows, or any tree within so many rounds."""
    check_rows(one, row, other, goal, depth)
    check_limits(one, other, depth)
    numbering = Numbering(one, other)
    if numbering.is_one_kind(row, goal, depth):
        return ("book", _book(numbering, row, goal, depth))
    return ("tree", _tree(numbering, row, goal, depth))


def _book(numbering, row, goal, depth):
    """The levels for two rows of one kind of the depth."""
    levels = [((row, goal),)]
    for rounds in range(depth):
        # Few rows have many goals: sorted one by one they take less than all pairs would.
        found = {}
        for pair in levels[0]:
            _put_behind(numbering, pair, depth - rounds - 1, found)
        levels = [tuple([(one, other) for one in sorted(found) for other in sorted(found[one])]), *levels]
    return tuple(levels)


def _put_behind(numbering, pair, depth, found):
    """Put each element of each side behind the row, with a reply that keeps the kinds of the depth."""
    row, goal = pair
    spots = ((0, row), (1, goal))
    replies = numbering.firsts_behind(spots[1], depth)
    for member, key in enumerate(numbering.keys_behind(spots[0], depth)):
        found.setdefault(row + (member,), {})[goal + (replies[key],)] = True
    replies = numbering.firsts_behind(spots[0], depth)
    for member, key in enumerate(numbering.keys_behind(spots[1], depth)):
        found.setdefault(row + (replies[key],), {})[goal + (member,)] = True


def _tree(numbering, row, goal, depth):
    """A tree within so many rounds for two rows whose kinds of the depth are unlike."""
    sides = ((0, row), (1, goal))
    least = numbering.least_unlike(sides[0], sides[1], depth)
    if least == 0:
        return ()
    side = 0
    taken = numbering.lone_spot(sides[0], sides[1], least)
    if taken is None:
        side = 1
        taken = numbering.lone_spot(sides[1], sides[0], least)
    replies = []
    for spot in numbering.spots_behind(sides[1 - side]):
        rows = (taken[1], spot[1]) if side == 0 else (spot[1], taken[1])
        replies.append(_tree(numbering, rows[0], rows[1], least - 1))
    return (side, taken[1][-1], tuple(replies))


def is_book_answer(one, row, other, goal, depth, value):
    """Whether the value is an answer, with any book or tree."""
    check_rows(one, row, other, goal, depth)
    check_limits(one, other, depth)
    if not isinstance(value, tuple) or len(value) != 2:
        return False
    if value[0] == "book":
        levels = value[1]
        return _holds_book(one, other, levels) and len(levels) == depth + 1 and (row, goal) in levels[-1]
    if value[0] != "tree":
        return False
    sides = (one.codes(), other.codes())
    return _is_tree((one.size, other.size), sides, (row, goal), depth, value[1], has_equal_atoms(sides, row, goal))


def _is_tree(sizes, sides, rows, rounds, value, is_equal):
    """Whether the value is a tree within so many rounds for two rows, whose atoms are equal or not."""
    if not isinstance(value, tuple):
        return False
    if not is_equal:
        return value == ()
    if len(value) != 3 or rounds == 0 or not is_index(value[0], 2):
        return False
    side, taken, replies = value
    if not is_index(taken, sizes[side]) or not isinstance(replies, tuple):
        return False
    if len(replies) != sizes[1 - side]:
        return False
    for answer, tree in enumerate(replies):
        longer = _with_both(rows, side, taken, answer)
        is_kept = told_of_last(sides[0], longer[0]) == told_of_last(sides[1], longer[1])
        if not _is_tree(sizes, sides, longer, rounds - 1, tree, is_kept):
            return False
    return True


def _with_both(rows, side, taken, answer):
    """Both rows with the element that is taken on the side, and the one that answers it."""
    members = (taken, answer) if side == 0 else (answer, taken)
    return (rows[0] + (members[0],), rows[1] + (members[1],))


def reply(one, other, levels, rounds, pair, side, element):
    """The least element of the other side by which the second player goes on in the book."""
    _check_structures(one, other)
    if not _holds_book(one, other, levels):
        raise InvalidBook("this is no book for the structures")
    check_number(rounds, 1, len(levels) - 1)
    if not _is_pair(one, other, pair) or pair not in levels[rounds]:
        raise InvalidOperation("the pair is none of the level")
    check_index(side, 2)
    sides = (one, other)
    check_index(element, sides[side].size)
    lower = {longer: True for longer in levels[rounds - 1]}
    answers = [answer for answer in range(sides[1 - side].size) if _with_both(pair, side, element, answer) in lower]
    return answers[0]


def played(one, row, other, goal, moves):
    """Both rows behind the moves, and whether their atoms were equal all the time."""
    check_sides(one, row, other, goal)
    if not _are_moves(one, other, moves) or len(row) + len(moves) > MOST_MEMBERS:
        raise InvalidOperation("the moves are no pairs of elements, or too many")
    check_alike(one, row, other, goal)
    is_equal = atom_of(one, row) == atom_of(other, goal)
    for member, answer in moves:
        row = row + (member,)
        goal = goal + (answer,)
        is_equal = is_equal and atom_of(one, row) == atom_of(other, goal)
    return ((row, goal), is_equal)


def _are_moves(one, other, value):
    """Whether the value is a tuple of pairs of an element of the one and one of the other structure."""
    if not isinstance(value, tuple):
        return False
    for pair in value:
        if not isinstance(pair, tuple) or len(pair) != 2:
            return False
        if not is_index(pair[0], one.size) or not is_index(pair[1], other.size):
            return False
    return True
