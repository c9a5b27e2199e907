"""What the tests share: wrong values, plain ways to reckon what the program tells, and many small inputs."""

from itertools import combinations, product

from wholebyparts.part.structures import Structure
from wholebyparts.read.readers import Reader
from wholebyparts.shape.shapes import Shape, ahead_shape, first_shape, opposite_link, product_shape, some_shape, sum_shape

BIG = 10 ** 99 + 7


def nested(wrap, depth, core=0):
    """A value with so many containers within one another."""
    value = core
    for _ in range(depth):
        value = wrap(value)
    return value


DEEP_TUPLE = nested(lambda value: (value,), 120)
DEEP_LIST = nested(lambda value: [value], 120)
DEEP_DICT = nested(lambda value: {"a": value}, 120)
DEEP_NOT = nested(lambda value: ("not", value), 119, ("true",))
# Few tuples, but endlessly many if they are counted as often as they stand.
DOUBLED = nested(lambda value: (value, value), 119)
DOUBLED_AND = nested(lambda value: ("and", value, value), 99, ("true",))
DOUBLED_SOME = nested(lambda value: ((), value, value), 119)

# No one of these is a structure, a row, a formula, a kind, an integer in any bounds, or anything else that is asked.
WRONG = (
    None, True, False, -2, BIG, -BIG, "", "true", "x" * 3000, "a\nb", [], [0], [()], ["true"], {}, {"a": 1}, {0: ()},
    (None,), ("",), (True, True), ((0,), [0]), ([],), ({},), (BIG,), (-BIG, BIG), (1, 2, 3, 4, 5, 6, 7, 8),
    DEEP_TUPLE, DEEP_LIST, DEEP_DICT, DEEP_NOT, DOUBLED, DOUBLED_AND, DOUBLED_SOME, ((), (), ()), ("not",),
    Structure(0, (), ()), Structure(2, ((0,),), (((0, 1),),)), Reader(1, ((0,),), (0,)),
    (Structure(1, (), ()),), (Structure(1, (), ()), Reader(1, ((0,),), ())), sum_shape((1, 1)), (sum_shape((0, 0)),),
)


NO_SIGNATURES = [*WRONG, (), (0,), (0, 3), (-1, 0), (True, 0), (0, False), [0, 0], (0, 0, 0), (0, None)]


def without_some(values, *kinds):
    """The values that are of none of these classes."""
    return [value for value in values if not isinstance(value, kinds)]


NO_STRUCTURES = [*without_some(WRONG, Structure), ()]
NO_READERS = [*without_some(WRONG, Reader), ()]
NO_SHAPES = [*without_some(WRONG, Shape), (), ((0, 0), ((), Reader(1, ((0,),), (0,))), (), ())]
NO_NUMBERS = [*WRONG, -1, (), (0,), "0"]
NO_ROWS = [*WRONG, (-2,), (True,), (False,), (60,), (0, 0, 0, 0, 0), [0], (-1, None), ((0,),), ("0",)]
NO_WORDS = [*WRONG, (2,), (0, 2), (-1,), (True,), (0, False), [0], "01", (0,) * 2001, (0, None), ((0,),)]
NO_FORMULAS = [
    *WRONG, (), ("not", ()), ("some",), ("true", 0), ("some", ("none", True)), ("none", False), ("mark", False, 0), ("mark", 0, -1),
    ("link", 0, 0), ["true"], ("not", ["true"]), ("and", ("true",)), ("none", 4), ("maybe", ("true",)), (("true",),),
    ("or", ("true",), ("true",), ("true",)), ("same", 0, BIG), ("some", ("some", ("some", ("some", ("true",))))),
]


def attribute_of(error):
    """What an error keeps, None without anything."""
    for name in ("spot", "given", "wanted", "limit", "reason"):
        if hasattr(error, name):
            return getattr(error, name)
    return None


def is_equal(one, other):
    """Equality for which True is not 1."""
    return type(one) is type(other) and one == other


def refuses(test, kind, kept, call, *args):
    """The call raises just this error, which keeps just this."""
    with test.assertRaises(kind) as caught:
        call(*args)
    test.assertIs(type(caught.exception), kind)
    if kept is not None:
        # The values stand in no message: some of them have no end when they are written out.
        test.assertTrue(is_equal(attribute_of(caught.exception), kept), call.__name__)


def refuses_each(test, call, good, wrong):
    """The first wrong argument is refused, with one and with two of them wrong.

    `wrong` has for each parameter that can be wrong (index, error, values); an error that keeps a value keeps
    the wrong one.
    """
    call(*good)
    for index, kind, values in wrong:
        for value in values:
            args = list(good)
            args[index] = value
            kept = value if hasattr(kind(value), "given") else None
            refuses(test, kind, kept, call, *args)
            for later, _, others in wrong:
                if later > index:
                    args = list(good)
                    args[index], args[later] = value, others[0]
                    refuses(test, kind, kept, call, *args)
                    args[later] = others[-1]
                    refuses(test, kind, kept, call, *args)


def accepts_all(test, call, *args, values=WRONG):
    """The call tells False of every one of the values, as the last argument."""
    for index, value in enumerate(values):
        test.assertIs(call(*args, value), False, f"the value {index}")


def lots_of(values):
    """All ascending tuples of the values."""
    values = list(values)
    return [lot for many in range(len(values) + 1) for lot in combinations(values, many)]


def structures_of(size, signature):
    """All structures of the size and the signature."""
    marks = lots_of(range(size))
    links = lots_of(product(range(size), repeat=2)) if signature[1] else []
    return [
        Structure(size, told, pairs)
        for told in product(marks, repeat=signature[0]) for pairs in product(links, repeat=signature[1])
    ]


def rows_with(structure, many):
    """All rows of so many members, also of none."""
    return list(product(range(-1, structure.size), repeat=many))


def plainly_holds(structure, formula, row):
    """Whether the formula holds, by the words of the document alone."""
    word, rest = formula[0], formula[1:]
    if word == "true":
        return True
    if word == "none":
        return row[rest[0]] == -1
    if word == "same":
        return row[rest[0]] == row[rest[1]]
    if word == "mark":
        return row[rest[1]] in structure.marks[rest[0]]
    if word == "link":
        return (row[rest[1]], row[rest[2]]) in structure.links[rest[0]]
    if word == "not":
        return not plainly_holds(structure, rest[0], row)
    if word == "and":
        return plainly_holds(structure, rest[0], row) and plainly_holds(structure, rest[1], row)
    if word == "or":
        return plainly_holds(structure, rest[0], row) or plainly_holds(structure, rest[1], row)
    found = [plainly_holds(structure, rest[0], row + (member,)) for member in range(structure.size)]
    return any(found) if word == "some" else all(found)


def plain_atom(structure, row):
    """The atom of a row, by the words of the document alone."""
    places = range(len(row))
    return (
        tuple(i for i in places if row[i] == -1),
        tuple((i, j) for i in places for j in places if i < j and row[i] == row[j] != -1),
        tuple(tuple(i for i in places if row[i] in mark) for mark in structure.marks),
        tuple(tuple((i, j) for i in places for j in places if (row[i], row[j]) in link) for link in structure.links),
    )


def plain_kind(structure, row, depth):
    """The kind of a row, by the words of the document alone."""
    if depth == 0:
        return (plain_atom(structure, row), ())
    members = {plain_kind(structure, row + (member,), depth - 1) for member in range(-1, structure.size)}
    return (plain_atom(structure, row), tuple(sorted(members)))


def atoms_about(signature, free):
    """All formulas that are one atom."""
    numbers = range(free)
    found = [("true",)] + [("none", x) for x in numbers] + [("same", x, y) for x in numbers for y in numbers]
    found += [("mark", i, x) for i in range(signature[0]) for x in numbers]
    return found + [("link", i, x, y) for i in range(signature[1]) for x in numbers for y in numbers]


class Chooser:
    """Numbers that look as if thrown, but are the same in each run."""

    def __init__(self, seed):
        self.state = seed * 2 + 1

    def number(self, many):
        self.state = (self.state * 6364136223846793005 + 1442695040888963407) % 2 ** 64
        return (self.state >> 33) % many

    def one_of(self, values):
        return values[self.number(len(values))]

    def formula(self, signature, free, depth, size):
        """A formula of at most the depth, with about so many nodes."""
        if size <= 1:
            return self.one_of(atoms_about(signature, free))
        word = self.one_of(["not", "and", "or"] + (["some", "all"] * 2 if depth else []))
        if word == "not":
            return (word, self.formula(signature, free, depth, size - 1))
        if word in ("and", "or"):
            half = size // 2
            return (word, self.formula(signature, free, depth, half), self.formula(signature, free, depth, half))
        return (word, self.formula(signature, free + 1, depth - 1, size - 1))

    def structure(self, size, signature):
        marks = [tuple(a for a in range(size) if self.number(2)) for _ in range(signature[0])]
        pairs = list(product(range(size), repeat=2))
        links = [tuple(pair for pair in pairs if self.number(2)) for _ in range(signature[1])]
        return Structure(size, tuple(marks), tuple(links))

    def row(self, structure, many):
        return tuple(self.number(structure.size + 1) - 1 for _ in range(many))

    def order(self, many):
        rest, found = list(range(many)), []
        while rest:
            found.append(rest.pop(self.number(len(rest))))
        return tuple(found)

    def reader(self, letters, states):
        steps = [tuple(self.number(states) for _ in range(letters)) for _ in range(states)]
        return Reader(letters, tuple(steps), tuple(state for state in range(states) if self.number(3) == 0))


def balanced(word, formula, nodes):
    """A formula with just so many nodes, an odd number, all others being this one node."""
    if nodes == 1:
        return formula
    half = (nodes - 1) // 2
    half -= 1 - half % 2
    return (word, balanced(word, formula, half), balanced(word, formula, nodes - 1 - half))


def of_nodes(nodes, formula=("true",)):
    """A formula with just so many nodes."""
    if nodes % 2 == 0:
        return ("not", balanced("and", formula, nodes - 1))
    return balanced("and", formula, nodes)


def all_words(letters, longest):
    """All words of at most so many letters, shorter ones first, then ascending."""
    return [word for length in range(longest + 1) for word in product(range(letters), repeat=length)]


def plain_state(reader, word):
    """The state behind the word, letter by letter."""
    state = 0
    for letter in word:
        state = reader.steps[state][letter]
    return state


def plainly_takes(reader, word):
    """Whether the word is taken, letter by letter."""
    return plain_state(reader, word) in reader.accepting


def some_readers(seed, many, letters=3, states=6):
    """Readers with at most so many letters and states."""
    chooser = Chooser(seed)
    return [chooser.reader(1 + chooser.number(letters), 1 + chooser.number(states)) for _ in range(many)]


def plain_lots(reader):
    """For each state of a reader the number of its lot of alike states: parted letter by letter."""
    lots = [int(state in reader.accepting) for state in range(reader.states)]
    for _ in range(reader.states):
        keys = [(lots[state], *[lots[goal] for goal in reader.steps[state]]) for state in range(reader.states)]
        lots = [sorted(set(keys)).index(key) for key in keys]
    return lots


def is_plainly_least(reader):
    """Whether all states are met, in their sequence, and none are alike."""
    order = [0]
    for state in order:
        order.extend([goal for goal in dict.fromkeys(reader.steps[state]) if goal not in order])
    return order == list(range(reader.states)) and len(set(plain_lots(reader))) == reader.states


def check_takes(test, reader, begin, step, accepts):
    """The reader is least and takes just what is told by a begin, steps by letters, and what accepts."""
    test.assertTrue(is_plainly_least(reader))
    met = {(0, begin)}
    waiting = [(0, begin)]
    while waiting:
        state, thing = waiting.pop()
        test.assertEqual(state in reader.accepting, accepts(thing))
        for letter in range(reader.letters):
            longer = (reader.steps[state][letter], step(thing, letter))
            if longer not in met:
                met.add(longer)
                waiting.append(longer)


def cycle(states, accepting=(0,), letters=1):
    """The reader that counts letters in turn."""
    return Reader(letters, tuple(((state + 1) % states,) * letters for state in range(states)), accepting)


def line(states, accepting, letters=1):
    """The reader that counts letters up to its last state."""
    return Reader(letters, tuple((min(state + 1, states - 1),) * letters for state in range(states)), accepting)


# What is told of a shape and of parts, by the words of the document alone.

def plain_letter(rule, structure, row):
    return sum(2 ** index for index, test in enumerate(rule[0]) if plainly_holds(structure, test, row))


def plainly_rules(rule, parts, rows):
    """Whether the rule holds for the rows."""
    return plainly_takes(rule[1], [plain_letter(rule, part, row) for part, row in zip(parts, rows)])


def plain_things(shape, parts):
    rows = product(*[range(-1, part.size) for part in parts])
    return [row for row in rows if plainly_rules(shape.domain, parts, [(member,) for member in row])]


def plain_whole(shape, parts):
    """The whole, element by element."""
    things = plain_things(shape, parts)
    names = list(enumerate(things))
    marks = [tuple(name for name, thing in names if plainly_rules(rule, parts, [(member,) for member in thing]))
             for rule in shape.marks]
    links = [tuple((a, b) for a, one in names for b, other in names if plainly_rules(rule, parts, list(zip(one, other))))
             for rule in shape.links]
    return Structure(len(things), tuple(marks), tuple(links))


def some_rules(chooser, signature, places, many, states=4, depth=1):
    """Rules with 0 to 3 tests of depth 0 or 1."""
    found = []
    for _ in range(many):
        tests = tuple(chooser.formula(signature, places, chooser.number(depth + 1), 1 + chooser.number(5))
                      for _ in range(chooser.number(4)))
        found.append((tests, chooser.reader(2 ** len(tests), 1 + chooser.number(states))))
    return found


def some_shapes(chooser, many, depth=1):
    """Shapes with rules of all forms, and those that have names."""
    found = []
    for index in range(many):
        signature = (chooser.number(3), chooser.number(3))
        if index % 2:
            made = [product_shape(signature), sum_shape(signature), some_shape(signature)]
            made += [call(signature, link) for call in (ahead_shape, first_shape) for link in range(signature[1])]
            made += [opposite_link(shape, link) for shape in list(made) for link in range(signature[1])]
            found.append(chooser.one_of(made))
            continue
        domain = some_rules(chooser, signature, 1, 1, 3, depth)[0]
        marks = some_rules(chooser, signature, 1, chooser.number(3), 3, depth)
        links = some_rules(chooser, signature, 2, chooser.number(3), 3, depth)
        found.append(Shape(signature, domain, tuple(marks), tuple(links)))
    return found
