"""Formulas: which values are some, what is counted in them, and what is made of them."""

from wholebyparts.checks import MOST_MEMBERS, check_members, is_index, is_order
from wholebyparts.errors import InvalidFormula, InvalidOperation, TooMany
from wholebyparts.part.structures import MOST_RELATIONS, check_signature

MOST_NODES = 2000
MOST_DEPTH = 3
MOST_WITHIN = 100

# What follows the word of an atom: v is a variable, m the index of a mark, l that of a link.
NUMBERS = {"true": "", "none": "v", "mark": "mv", "link": "lvv", "same": "vv"}
# How many formulas follow the word of every other node.
PARTS = {"not": 1, "and": 2, "or": 2, "some": 1, "all": 1}
QUANTIFIERS = ("some", "all")
# The words that change places when a formula is turned into its opposite.
OPPOSITES = {"and": "or", "or": "and", "some": "all", "all": "some"}
NEVER = ("not", ("true",))


def is_formula(signature, free, value):
    """Whether the value is a formula."""
    check_signature(signature)
    check_members(free)
    return is_well_formed(signature, free, value)


def _check(signature, free, formula):
    check_signature(signature)
    check_members(free)
    check_formula(signature, free, formula)


def depth_of(signature, free, formula):
    """How many quantifiers stand within one another."""
    _check(signature, free, formula)
    return quantified(formula)


def nodes_of(signature, free, formula):
    """How many nodes the formula has."""
    _check(signature, free, formula)
    return counted(formula)


def counted(formula):
    """The number of nodes of a formula."""
    if formula[0] in NUMBERS:
        return 1
    return 1 + sum([counted(part) for part in formula[1:]])


def used(signature, free, formula):
    """The ascending tuple of the free variables that some atom names."""
    _check(signature, free, formula)
    named = {number for atom in atoms_of(formula) for number in variables_of(atom)}
    return tuple([number for number in sorted(named) if number < free])


def core(signature, free, formula):
    """The formula, said with atoms, not, and, some alone."""
    _check(signature, free, formula)
    return bounded(_core(formula))


def _core(formula):
    word = formula[0]
    if word not in PARTS:
        return formula
    parts = [_core(part) for part in formula[1:]]
    if word == "or":
        return ("not", ("and", ("not", parts[0]), ("not", parts[1])))
    if word == "all":
        return ("not", ("some", ("not", parts[0])))
    return (word, *parts)


def opposite(signature, free, formula):
    """The opposite of the formula."""
    _check(signature, free, formula)
    return bounded(_turned(formula, True))


def _turned(formula, is_opposite):
    """The formula, or its opposite, with "not" at atoms alone."""
    word = formula[0]
    if word == "not":
        return _turned(formula[1], not is_opposite)
    if word not in PARTS:
        return ("not", formula) if is_opposite else formula
    parts = [_turned(part, is_opposite) for part in formula[1:]]
    return (OPPOSITES[word] if is_opposite else word, *parts)


def led(signature, free, formula, order):
    """The formula in which the free variable i is called order[i]."""
    _check(signature, free, formula)
    if not is_order(order, free):
        raise InvalidOperation("the order does not name each free variable once")
    return with_order(formula, order)


def changed(signature, marks, links, free, formula):
    """The formula about a structure told anew, led to one about the first structure."""
    check_signature(signature)
    if not is_formula_tuple(signature, 1, marks, MOST_RELATIONS, 0):
        raise InvalidOperation("the marks are not told by formulas of depth 0 with one free variable")
    if not is_formula_tuple(signature, 2, links, MOST_RELATIONS, 0):
        raise InvalidOperation("the links are not told by formulas of depth 0 with two free variables")
    check_members(free)
    check_formula((len(marks), len(links)), free, formula)
    # An atom can stand often, and what tells it can be long: it is put in once.
    put = {atom: _told_anew(marks, links, atom) for atom in atoms_of(formula)}
    return bounded(_put_in(put, formula))


def _told_anew(marks, links, atom):
    """What an atom about a structure told anew says about the first one."""
    if atom[0] == "mark":
        told = with_order(marks[atom[1]], atom[2:])
    elif atom[0] == "link":
        told = with_order(links[atom[1]], atom[2:])
    else:
        return atom
    for number in atom[2:]:
        told = ("and", told, ("not", ("none", number)))
    return told


def _put_in(put, formula):
    word = formula[0]
    if word not in PARTS:
        return put[formula]
    return (word, *[_put_in(put, part) for part in formula[1:]])


def is_well_formed(signature, free, value):
    """Whether the value is a formula for the signature and so many free variables."""
    most = most_depth(free)
    waiting = [(value, 0, 1)]
    nodes = 0
    # Nodes are counted while the value is met, as a value can hold one tuple endlessly often.
    while waiting:
        node, depth, within = waiting.pop()
        nodes += 1
        if nodes > MOST_NODES or within > MOST_WITHIN or depth > most:
            return False
        if not isinstance(node, tuple) or not node or not isinstance(node[0], str):
            return False
        if node[0] in NUMBERS:
            if not _is_atom(signature, free + depth, node):
                return False
        elif node[0] not in PARTS or len(node) != PARTS[node[0]] + 1:
            return False
        else:
            deeper = depth + (1 if node[0] in QUANTIFIERS else 0)
            waiting.extend([(part, deeper, within + 1) for part in node[1:]])
    return True


def _is_atom(signature, free, node):
    """Whether a tuple that begins with the word of an atom is one for so many free variables."""
    letters = NUMBERS[node[0]]
    many = {"v": free, "m": signature[0], "l": signature[1]}
    if len(node) != len(letters) + 1:
        return False
    return all([is_index(number, many[letter]) for letter, number in zip(letters, node[1:])])


def most_depth(free):
    """The greatest depth of formulas with so many free variables, and of kinds with so many places."""
    return min(MOST_DEPTH, MOST_MEMBERS - free)


def check_formula(signature, free, value):
    """Refuse what is no formula for the signature and so many free variables."""
    if not is_well_formed(signature, free, value):
        raise InvalidFormula(f"this is no formula with {free} free variables for the signature")


def is_formula_tuple(signature, free, value, most, depth):
    """Whether the value is a tuple of at most so many formulas, none of a greater depth."""
    if not isinstance(value, tuple) or len(value) > most:
        return False
    for member in value:
        if not is_well_formed(signature, free, member) or quantified(member) > depth:
            return False
    return True


def quantified(formula):
    """The depth of a formula."""
    if formula[0] in NUMBERS:
        return 0
    deepest = max([quantified(part) for part in formula[1:]])
    return deepest + (1 if formula[0] in QUANTIFIERS else 0)


def is_within_bounds(formula):
    """Whether what is built like a formula has few enough nodes, and few enough within one another."""
    waiting = [(formula, 1)]
    nodes = 0
    while waiting:
        node, within = waiting.pop()
        nodes += 1
        if nodes > MOST_NODES or within > MOST_WITHIN:
            return False
        if node[0] not in NUMBERS:
            waiting.extend([(part, within + 1) for part in node[1:]])
    return True


def bounded(formula):
    """The formula, which is made here: refused if it has too many nodes."""
    if not is_within_bounds(formula):
        raise TooMany(MOST_NODES)
    return formula


def atoms_of(formula):
    """The list of the atoms of a formula, as often as they stand."""
    waiting = [formula]
    found = []
    while waiting:
        node = waiting.pop()
        if node[0] in NUMBERS:
            found.append(node)
        else:
            waiting.extend(node[1:])
    return found


def variables_of(atom):
    """The variables that an atom names."""
    return [number for letter, number in zip(NUMBERS[atom[0]], atom[1:]) if letter == "v"]


def with_order(formula, order):
    """The formula in which the variable i is called order[i], those behind the order as they are."""
    word = formula[0]
    if word in PARTS:
        return (word,) + tuple([with_order(part, order) for part in formula[1:]])
    told = [word]
    for letter, number in zip(NUMBERS[word], formula[1:]):
        told.append(order[number] if letter == "v" and number < len(order) else number)
    return tuple(told)


def joined(word, formulas):
    """All of the formulas with the word between them, so that few stand within one another."""
    if not formulas:
        return ("true",) if word == "and" else NEVER
    if len(formulas) == 1:
        return formulas[0]
    half = len(formulas) // 2
    return (word, joined(word, formulas[:half]), joined(word, formulas[half:]))
