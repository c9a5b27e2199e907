"""Rows of members of a whole, of whose parts just the kinds are known."""

from wholebyparts.checks import ascending
from wholebyparts.kinds.atoms import atom_tells
from wholebyparts.kinds.trees import KindLevels, is_last_none
from wholebyparts.say.formulas import with_order


class Standings:
    """The standings of a whole: for each part a kind, told by its number, and which places are none of the whole.

    `trees` has for each number the places and the kind, `members` the numbers of its members: that of none last,
    and the list of all. What is told of a kind of the whole has numbers, too, so that each is made once.
    """

    def __init__(self, shape):
        self.shape = shape
        self.numbers = {}
        self.trees = []
        self.members = []
        self.letters = {}
        self.known = {}
        self.wholes = {}
        self.kinds_told = []

    def number(self, places, tree):
        """The number of a kind of a part."""
        members = [self.number(places + 1, member) for member in tree[1]]
        key = (places, tree[0], tuple(members))
        if key not in self.numbers:
            nones = [one for one, member in zip(members, tree[1]) if is_last_none(places, member)]
            self.numbers[key] = len(self.trees)
            self.trees.append((places, tree))
            self.members.append((nones, members))
        return self.numbers[key]

    def whole_kind(self, kinds, depth):
        """The kind of the depth of the whole of parts that have these kinds."""
        begin = tuple([self.number(0, tree) for tree in kinds])
        atom = ((), (), ((),) * len(self.shape.marks), ((),) * len(self.shape.links))
        return self.kinds_told[self.reckoned(begin, (), atom, depth)]

    def reckoned(self, standing, there, atom, depth):
        """The number of the kind of the whole of a standing with the atom; `there` are its places with elements."""
        key = (standing, atom, depth)
        if key not in self.known:
            found = self.found_behind(standing, there, atom, depth) if depth > 0 else {}
            members = ascending([self.kinds_told[number] for number in found])
            told = (atom, tuple(sorted(found)))
            if told not in self.wholes:
                self.wholes[told] = len(self.kinds_told)
                self.kinds_told.append((atom, members))
            self.known[key] = self.wholes[told]
        return self.known[key]

    def found_behind(self, standing, there, atom, depth):
        """The numbers, as keys, of the kinds of the whole behind each step."""
        last = self.many_places(atom, there)
        nones = tuple([self.members[number][0][0] for number in standing])
        found = {self.reckoned(nones, there, ((*atom[0], last), *atom[1:]), depth - 1): True}
        for longer in self.stepped(standing, last):
            found[self.reckoned(longer, (*there, last), self.atom_behind(longer, there, atom, last), depth - 1)] = True
        return found

    def many_places(self, atom, there):
        """How many members the row has: those that are none of the whole stand in its atom."""
        return len(atom[0]) + len(there)

    def stepped(self, standing, last):
        """The standings with one element of the whole behind: by the domain's rule for the last place."""
        rule = self.shape.domain
        found = [((), 0)]
        for number in standing:
            longer = []
            for member in self.members[number][1]:
                letter = self.letter(("domain", 0), rule, member, (last,))
                longer.extend([((*row, member), rule[1].steps[state][letter]) for row, state in found])
            found = longer
        return [row for row, state in found if state in rule[1].accepting]

    def letter(self, key, rule, number, variables):
        """The letter of the rule at a part of the kind, for the told places."""
        told = (key, number, variables)
        if told not in self.letters:
            places, tree = self.trees[number]
            levels = KindLevels(places, tree)
            tests = [with_order(test, (*variables, places)) for test in rule[0]]
            self.letters[told] = sum([1 << index for index, test in enumerate(tests) if levels.answers(test)[0]])
        return self.letters[told]

    def tells(self, key, rule, standing, variables):
        """Whether the rule holds at the places of the standing."""
        state = 0
        for number in standing:
            state = rule[1].steps[state][self.letter(key, rule, number, variables)]
        return state in rule[1].accepting

    def atom_behind(self, standing, there, atom, last):
        """The atom of a standing with an element last, by that of the standing ahead."""
        equal = [place for place in there if self.is_same(standing, place, last)]
        marks = []
        for index, (mark, rule) in enumerate(zip(atom[2], self.shape.marks)):
            marks.append((*mark, last) if self.tells(("mark", index), rule, standing, (last,)) else mark)
        pairs = [pair for place in there for pair in ((place, last), (last, place))] + [(last, last)]
        links = []
        for index, (link, rule) in enumerate(zip(atom[3], self.shape.links)):
            told = [pair for pair in pairs if self.tells(("link", index), rule, standing, pair)]
            links.append(tuple(sorted([*link, *told])))
        same = tuple(sorted([*atom[1], *[(place, last) for place in equal]]))
        return (atom[0], same, tuple(marks), tuple(links))

    def is_same(self, standing, place, last):
        """Whether the things at both places are the same: at each part one element, or none and none."""
        return all([atom_tells(self.trees[number][1][0], ("same", place, last)) for number in standing])
