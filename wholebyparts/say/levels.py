"""Where formulas hold, asked for many rows at once.

A table is an integer with one bit for each row of a level: the highest bit tells of the first row. The rows of the
next level, over which a quantifier goes, stand together for each row.
"""

from wholebyparts.checks import power
from wholebyparts.part.rows import NONE
from wholebyparts.say.formulas import variables_of


class Levels:
    """What all levels have: a class below tells by `many` how many rows there are, and gives the other tables."""

    def __init__(self):
        self.known = {}

    def table(self, formula, level):
        """The table of the formula for the rows of the level."""
        word = formula[0]
        if word == "not":
            return self.whole_table(level) ^ self.table(formula[1], level)
        if word == "and":
            return self.table(formula[1], level) & self.table(formula[2], level)
        if word == "or":
            return self.table(formula[1], level) | self.table(formula[2], level)
        if word == "some":
            return self.behind(self.table(formula[1], level + 1), level)
        if word == "all":
            lacking = self.whole_table(level + 1) ^ self.table(formula[1], level + 1)
            return self.whole_table(level) ^ self.behind(lacking, level)
        if (level, formula) not in self.known:
            self.known[(level, formula)] = table_of(self.atom_bits(formula, level))
        return self.known[(level, formula)]

    def whole_table(self, level):
        """The table of what holds at all rows of the level."""
        return (1 << self.many(level)) - 1

    def answers(self, formula):
        """The list that tells for each row of the first level whether the formula holds."""
        return [bit == "1" for bit in bits_of(self.table(formula, 0), self.many(0))]

    def many(self, level):
        """How many rows the level has."""
        raise NotImplementedError("a class below tells it")

    def behind(self, table, level):
        """The table for the rows of the level behind which some row has its bit in the table of the next one."""
        raise NotImplementedError("a class below tells it")

    def atom_bits(self, atom, level):
        """The bits of the rows of the level, as a string: whether the atom holds."""
        raise NotImplementedError("a class below tells it")


def table_of(bits):
    """The table with the bits, a string of zeros and ones, that of the first row first."""
    return int("0" + bits, 2)


def bits_of(table, many):
    """The bits of the table of so many rows as a string, that of the first row first."""
    return f"{table:b}".zfill(many) if many > 0 else ""


def joined_answers(answers):
    """The bits of a list of answers."""
    return "".join(["1" if answer else "0" for answer in answers])


class RowLevels(Levels):
    """Rows of any kind: a class below tells by `longer` which stand behind a row, by `tells` what holds at it."""

    def __init__(self, rows):
        super().__init__()
        self.rows = [rows]
        self.runs = []

    def rows_at(self, level):
        """The list of the rows of the level."""
        while len(self.rows) <= level:
            self.add_level()
        return self.rows[level]

    def add_level(self):
        """Put the rows that stand behind those of the last level."""
        rows, runs = [], []
        for row in self.rows[-1]:
            first = len(rows)
            rows.extend(self.longer(row))
            runs.append((first, len(rows)))
        self.rows.append(rows)
        self.runs.append(runs)

    def many(self, level):
        """How many rows the level has."""
        return len(self.rows_at(level))

    def behind(self, table, level):
        """The table for the rows of the level behind which some row has its bit in the table of the next one."""
        bits = bits_of(table, len(self.rows_at(level + 1)))
        return table_of(joined_answers(["1" in bits[first:end] for first, end in self.runs[level]]))

    def atom_bits(self, atom, level):
        """The bits of the rows of the level, as a string: whether the atom holds."""
        return joined_answers([self.tells(row, atom) for row in self.rows_at(level)])

    def longer(self, row):
        """The rows that stand behind a row."""
        raise NotImplementedError("a class below tells it")

    def tells(self, row, atom):
        """Whether the atom holds at the row."""
        raise NotImplementedError("a class below tells it")


class StructureLevels(Levels):
    """Rows of a structure, or of what tells its marks and links as a structure does; quantifiers go over its elements.

    As each row has all elements behind it, nothing is listed: the bits of an atom are a pattern that comes again and
    again. `size`, `is_marked`, `is_linked`, `mark_bits`, `link_bits` and `loop_bits` are asked of the structure.
    """

    def __init__(self, structure, rows):
        super().__init__()
        self.structure = structure
        self.size = structure.size
        self.rows = rows
        self.free = len(rows[0]) if rows else 0

    def many(self, level):
        """How many rows the level has."""
        return len(self.rows) * power(self.size, level)

    def behind(self, table, level):
        """The table for the rows of the level behind which some row has its bit in the table of the next one."""
        if self.size == 0:
            return 0
        bits = bits_of(table, self.many(level + 1))
        size = self.size
        return table_of(joined_answers(["1" in bits[first:first + size] for first in range(0, len(bits), size)]))

    def atom_bits(self, atom, level):
        """The bits of the rows of the level, as a string: whether the atom holds."""
        if atom == ("true",):
            return "1" * self.many(level)
        names = variables_of(atom)
        bound = sorted({name for name in names if name >= self.free})
        if not bound:
            wide = power(self.size, level)
            return "".join(["1" * wide if atom_holds(self.structure, row, atom) else "0" * wide for row in self.rows])
        inner = self.free + level - 1 - bound[-1]
        if len(bound) == 2:
            lines = [self.line(atom, member, bound[0] == names[-1]) for member in range(self.size)]
            between = power(self.size, bound[1] - bound[0] - 1)
            pattern = "".join([self.stretched(line, inner) * between for line in lines])
            return pattern * (len(self.rows) * power(self.size, bound[0] - self.free))
        times = power(self.size, bound[0] - self.free)
        if names[0] == names[-1]:
            return self.stretched(self.loops(atom), inner) * (len(self.rows) * times)
        is_turned = names[0] == bound[0]
        members = [row[names[1] if is_turned else names[0]] for row in self.rows]
        lines = {member: self.stretched(self.line(atom, member, is_turned), inner) * times for member in members}
        return "".join([lines[member] for member in members])

    def stretched(self, bits, inner):
        """The bits, each so often as there are rows of so many members."""
        if inner == 0:
            return bits
        wide = power(self.size, inner)
        return "".join([bit * wide for bit in bits])

    def loops(self, atom):
        """For each element whether an atom that names just one variable holds of it."""
        if atom[0] == "mark":
            return self.structure.mark_bits(atom[1])
        if atom[0] == "link":
            return self.structure.loop_bits(atom[1])
        return ("1" if atom[0] == "same" else "0") * self.size

    def line(self, atom, member, is_turned):
        """For each element whether an atom holds of the member and it; if turned, of it and the member."""
        if member == NONE:
            return "0" * self.size
        if atom[0] == "link":
            return self.structure.link_bits(atom[1], member, is_turned)
        return "0" * member + "1" + "0" * (self.size - member - 1)


def atom_holds(structure, row, atom):
    """Whether the atom holds at the row of the structure."""
    word = atom[0]
    if word == "none":
        return row[atom[1]] == NONE
    if word == "mark":
        return structure.is_marked(atom[1], row[atom[2]])
    if word == "link":
        return structure.is_linked(atom[1], row[atom[2]], row[atom[3]])
    if word == "same":
        return row[atom[1]] == row[atom[2]]
    return True


def holds_at(structure, row, formula):
    """Whether the formula holds at the row, whatever that takes."""
    return StructureLevels(structure, [row]).answers(formula)[0]
