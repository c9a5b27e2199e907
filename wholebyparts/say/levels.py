"""Where formulas hold, asked for many rows at once.

A table is an integer with one bit for each row of a level: the highest bit tells of the first row.
"""

from wholebyparts.part.rows import NONE


class Levels:
    """Rows in levels; the rows of the next level that a quantifier goes over stand together.

    A class below tells by `longer` which rows stand behind a row, by `tells` which atoms hold at it.
    """

    def __init__(self, rows):
        self.rows = [rows]
        self.runs = []
        self.known = {}

    def table(self, formula, level):
        """The table of the formula for the rows of the level."""
        word = formula[0]
        if word == "not":
            return self.whole_table(level) ^ self.table(formula[1], level)
        if word == "and":
            return self.table(formula[1], level) & self.table(formula[2], level)
        if word == "or":
            return self.table(formula[1], level) | self.table(formula[2], level)
        if word == "some":
            return self.behind(self.table(formula[1], level + 1), level)
        if word == "all":
            lacking = self.whole_table(level + 1) ^ self.table(formula[1], level + 1)
            return self.whole_table(level) ^ self.behind(lacking, level)
        if (level, formula) not in self.known:
            self.known[(level, formula)] = table_of([self.tells(row, formula) for row in self.rows_at(level)])
        return self.known[(level, formula)]

    def rows_at(self, level):
        """The list of the rows of the level."""
        while len(self.rows) <= level:
            self.add_level()
        return self.rows[level]

    def add_level(self):
        """Put the rows that stand behind those of the last level."""
        rows, runs = [], []
        for row in self.rows[-1]:
            first = len(rows)
            rows.extend(self.longer(row))
            runs.append((first, len(rows)))
        self.rows.append(rows)
        self.runs.append(runs)

    def whole_table(self, level):
        """The table of what holds at all rows of the level."""
        return (1 << len(self.rows_at(level))) - 1

    def behind(self, table, level):
        """The table for the rows of the level behind which some row has its bit in the table of the next one."""
        bits = bits_of(table, len(self.rows_at(level + 1)))
        return table_of(["1" in bits[first:end] for first, end in self.runs[level]])

    def answers(self, formula):
        """The list that tells for each row of the first level whether the formula holds."""
        return [bit == "1" for bit in bits_of(self.table(formula, 0), len(self.rows[0]))]

    def longer(self, row):
        """The rows that stand behind a row."""
        raise NotImplementedError("a class below tells it")

    def tells(self, row, atom):
        """Whether the atom holds at the row."""
        raise NotImplementedError("a class below tells it")


def table_of(answers):
    """The table of a list of answers."""
    return int("0" + "".join(["1" if answer else "0" for answer in answers]), 2)


def bits_of(table, many):
    """The bits of the table of so many rows as a string of zeros and ones, that of the first row first."""
    return f"{table:b}".zfill(many) if many > 0 else ""


class StructureLevels(Levels):
    """Rows of a structure; quantifiers go over its elements."""

    def __init__(self, structure, rows):
        super().__init__(rows)
        self.structure = structure

    def longer(self, row):
        """The row with each element behind it."""
        return [row + (member,) for member in range(self.structure.size)]

    def tells(self, row, atom):
        """Whether the atom holds at the row."""
        return atom_holds(self.structure, row, atom)


def atom_holds(structure, row, atom):
    """Whether the atom holds at the row of the structure."""
    word = atom[0]
    if word == "none":
        return row[atom[1]] == NONE
    if word == "mark":
        return structure.is_marked(atom[1], row[atom[2]])
    if word == "link":
        return structure.is_linked(atom[1], row[atom[2]], row[atom[3]])
    if word == "same":
        return row[atom[1]] == row[atom[2]]
    return True


def holds_at(structure, row, formula):
    """Whether the formula holds at the row, whatever that takes."""
    return StructureLevels(structure, [row]).answers(formula)[0]
