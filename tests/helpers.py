"""What the tests share: wrong values, plain ways to reckon what the program tells, and many small inputs."""

from itertools import combinations, product

from wholebyparts.part.structures import Structure
from wholebyparts.read.readers import Reader

BIG = 10 ** 99 + 7


def nested(wrap, depth, core=0):
    """A value with so many containers within one another."""
    value = core
    for _ in range(depth):
        value = wrap(value)
    return value


DEEP_TUPLE = nested(lambda value: (value,), 120)
DEEP_LIST = nested(lambda value: [value], 120)
DEEP_DICT = nested(lambda value: {"a": value}, 120)
DEEP_NOT = nested(lambda value: ("not", value), 119, ("true",))
# Few tuples, but endlessly many if they are counted as often as they stand.
DOUBLED = nested(lambda value: (value, value), 119)
DOUBLED_AND = nested(lambda value: ("and", value, value), 99, ("true",))
DOUBLED_SOME = nested(lambda value: ((), value, value), 119)

# No one of these is a structure, a row, a formula, a kind, an integer in any bounds, or anything else that is asked.
WRONG = (
    None, True, False, -2, BIG, -BIG, "", "true", "x" * 3000, "a\nb", [], [0], [()], ["true"], {}, {"a": 1}, {0: ()},
    (None,), ("",), (True, True), ((0,), [0]), ([],), ({},), (BIG,), (-BIG, BIG), (1, 2, 3, 4, 5, 6, 7, 8),
    DEEP_TUPLE, DEEP_LIST, DEEP_DICT, DEEP_NOT, DOUBLED, DOUBLED_AND, DOUBLED_SOME, ((), (), ()), ("not",),
    Structure(0, (), ()), Structure(2, ((0,),), (((0, 1),),)), Reader(1, ((0,),), (0,)),
    (Structure(1, (), ()),), (Structure(1, (), ()), Reader(1, ((0,),), ())),
)


def without_some(values, *kinds):
    """The values that are of none of these classes."""
    return [value for value in values if not isinstance(value, kinds)]


NO_STRUCTURES = [*without_some(WRONG, Structure), ()]
NO_READERS = [*without_some(WRONG, Reader), ()]
NO_NUMBERS = [*WRONG, -1, (), (0,), "0"]
NO_ROWS = [*WRONG, (-2,), (True,), (False,), (60,), (0, 0, 0, 0, 0), [0], (-1, None), ((0,),), ("0",)]
NO_FORMULAS = [
    *WRONG, (), ("not", ()), ("some",), ("true", 0), ("some", ("none", True)), ("none", False), ("mark", False, 0), ("mark", 0, -1),
    ("link", 0, 0), ["true"], ("not", ["true"]), ("and", ("true",)), ("none", 4), ("maybe", ("true",)), (("true",),),
    ("or", ("true",), ("true",), ("true",)), ("same", 0, BIG), ("some", ("some", ("some", ("some", ("true",))))),
]


def attribute_of(error):
    """What an error keeps, None without anything."""
    for name in ("spot", "given", "wanted", "limit", "reason"):
        if hasattr(error, name):
            return getattr(error, name)
    return None


def is_equal(one, other):
    """Equality for which True is not 1."""
    return type(one) is type(other) and one == other


def refuses(test, kind, kept, call, *args):
    """The call raises just this error, which keeps just this."""
    with test.assertRaises(kind) as caught:
        call(*args)
    test.assertIs(type(caught.exception), kind)
    if kept is not None:
        # The values stand in no message: some of them have no end when they are written out.
        test.assertTrue(is_equal(attribute_of(caught.exception), kept), call.__name__)


def refuses_each(test, call, good, wrong):
    """The first wrong argument is refused, with one and with two of them wrong.

    `wrong` has for each parameter that can be wrong (index, error, values); an error that keeps a value keeps
    the wrong one.
    """
    call(*good)
    for index, kind, values in wrong:
        for value in values:
            args = list(good)
            args[index] = value
            kept = value if hasattr(kind(value), "given") else None
            refuses(test, kind, kept, call, *args)
            for later, _, others in wrong:
                if later > index:
                    args = list(good)
                    args[index], args[later] = value, others[0]
                    refuses(test, kind, kept, call, *args)
                    args[later] = others[-1]
                    refuses(test, kind, kept, call, *args)


def accepts_all(test, call, *args, values=WRONG):
    """The call tells False of every one of the values, as the last argument."""
    for index, value in enumerate(values):
        test.assertIs(call(*args, value), False, f"the value {index}")


def lots_of(values):
    """All ascending tuples of the values."""
    values = list(values)
    return [lot for many in range(len(values) + 1) for lot in combinations(values, many)]


def structures_of(size, signature):
    """All structures of the size and the signature."""
    marks = lots_of(range(size))
    links = lots_of(product(range(size), repeat=2)) if signature[1] else []
    return [
        Structure(size, told, pairs)
        for told in product(marks, repeat=signature[0]) for pairs in product(links, repeat=signature[1])
    ]


def rows_with(structure, many):
    """All rows of so many members, also of none."""
    return list(product(range(-1, structure.size), repeat=many))


def plainly_holds(structure, formula, row):
    """Whether the formula holds, by the words of the document alone."""
    word, rest = formula[0], formula[1:]
    if word == "true":
        return True
    if word == "none":
        return row[rest[0]] == -1
    if word == "same":
        return row[rest[0]] == row[rest[1]]
    if word == "mark":
        return row[rest[1]] in structure.marks[rest[0]]
    if word == "link":
        return (row[rest[1]], row[rest[2]]) in structure.links[rest[0]]
    if word == "not":
        return not plainly_holds(structure, rest[0], row)
    if word == "and":
        return plainly_holds(structure, rest[0], row) and plainly_holds(structure, rest[1], row)
    if word == "or":
        return plainly_holds(structure, rest[0], row) or plainly_holds(structure, rest[1], row)
    found = [plainly_holds(structure, rest[0], row + (member,)) for member in range(structure.size)]
    return any(found) if word == "some" else all(found)


def plain_atom(structure, row):
    """The atom of a row, by the words of the document alone."""
    places = range(len(row))
    return (
        tuple(i for i in places if row[i] == -1),
        tuple((i, j) for i in places for j in places if i < j and row[i] == row[j] != -1),
        tuple(tuple(i for i in places if row[i] in mark) for mark in structure.marks),
        tuple(tuple((i, j) for i in places for j in places if (row[i], row[j]) in link) for link in structure.links),
    )


def plain_kind(structure, row, depth):
    """The kind of a row, by the words of the document alone."""
    if depth == 0:
        return (plain_atom(structure, row), ())
    members = {plain_kind(structure, row + (member,), depth - 1) for member in range(-1, structure.size)}
    return (plain_atom(structure, row), tuple(sorted(members)))


def atoms_about(signature, free):
    """All formulas that are one atom."""
    numbers = range(free)
    found = [("true",)] + [("none", x) for x in numbers] + [("same", x, y) for x in numbers for y in numbers]
    found += [("mark", i, x) for i in range(signature[0]) for x in numbers]
    return found + [("link", i, x, y) for i in range(signature[1]) for x in numbers for y in numbers]


class Chooser:
    """Numbers that look as if thrown, but are the same in each run."""

    def __init__(self, seed):
        self.state = seed * 2 + 1

    def number(self, many):
        self.state = (self.state * 6364136223846793005 + 1442695040888963407) % 2 ** 64
        return (self.state >> 33) % many

    def one_of(self, values):
        return values[self.number(len(values))]

    def formula(self, signature, free, depth, size):
        """A formula of at most the depth, with about so many nodes."""
        if size <= 1:
            return self.one_of(atoms_about(signature, free))
        word = self.one_of(["not", "and", "or"] + (["some", "all"] * 2 if depth else []))
        if word == "not":
            return (word, self.formula(signature, free, depth, size - 1))
        if word in ("and", "or"):
            half = size // 2
            return (word, self.formula(signature, free, depth, half), self.formula(signature, free, depth, half))
        return (word, self.formula(signature, free + 1, depth - 1, size - 1))

    def structure(self, size, signature):
        marks = [tuple(a for a in range(size) if self.number(2)) for _ in range(signature[0])]
        pairs = list(product(range(size), repeat=2))
        links = [tuple(pair for pair in pairs if self.number(2)) for _ in range(signature[1])]
        return Structure(size, tuple(marks), tuple(links))

    def row(self, structure, many):
        return tuple(self.number(structure.size + 1) - 1 for _ in range(many))

    def order(self, many):
        rest, found = list(range(many)), []
        while rest:
            found.append(rest.pop(self.number(len(rest))))
        return tuple(found)

    def reader(self, letters, states):
        steps = [tuple(self.number(states) for _ in range(letters)) for _ in range(states)]
        return Reader(letters, tuple(steps), tuple(state for state in range(states) if self.number(3) == 0))


def balanced(word, formula, nodes):
    """A formula with just so many nodes, an odd number, all others being this one node."""
    if nodes == 1:
        return formula
    half = (nodes - 1) // 2
    half -= 1 - half % 2
    return (word, balanced(word, formula, half), balanced(word, formula, nodes - 1 - half))


def of_nodes(nodes, formula=("true",)):
    """A formula with just so many nodes."""
    if nodes % 2 == 0:
        return ("not", balanced("and", formula, nodes - 1))
    return balanced("and", formula, nodes)
