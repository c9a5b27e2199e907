"""Texts of structures, readers and formulas, and what is read back from them."""

from wholebyparts.checks import check_members
from wholebyparts.errors import InvalidText, ParseError
from wholebyparts.part.structures import MOST_RELATIONS, MOST_SIZE, Structure, check_signature, check_structure
from wholebyparts.read.readers import MOST_LETTERS, MOST_STATES, Reader, check_reader
from wholebyparts.say.formulas import check_formula
from wholebyparts.text.parsing import FormulaParsing
from wholebyparts.text.words import numbers_of, pairs_of, said_numbers, said_pairs

MOST_TEXT = 200000


def structure_text(structure):
    """The text of the structure."""
    check_structure(structure)
    lines = [["structure", *said_numbers([structure.size, len(structure.marks), len(structure.links)])]]
    lines.extend([["mark", *said_numbers(mark)] for mark in structure.marks])
    lines.extend([["link", *said_pairs(link)] for link in structure.links])
    return _joined(lines)


def reader_text(reader):
    """The text of the reader."""
    check_reader(reader)
    lines = [["reader", *said_numbers([reader.letters, reader.states])]]
    lines.extend([["step", *said_numbers(step)] for step in reader.steps])
    lines.append(["accepting", *said_numbers(reader.accepting)])
    return _joined(lines)


def _joined(lines):
    """The text of lines of words."""
    return "".join([" ".join(line) + "\n" for line in lines])


def _check_text(value):
    """Refuse what is no string of printable ASCII characters and newlines, or too long a one."""
    if not isinstance(value, str) or len(value) > MOST_TEXT:
        raise InvalidText("this is no text, or too long a one")
    if not value.isascii() or not value.replace("\n", "").isprintable():
        raise InvalidText("the text has other signs than printable ASCII characters and newlines")


def _lines(text):
    """The lists of the words of the lines that end with a newline, and whether all do."""
    lines = text.split("\n")
    return ([line.split(" ") for line in lines[:-1]], lines[-1] == "")


def _check_many(lines, is_whole, many):
    """Refuse lines that are all right so far, but not just as many as told."""
    if len(lines) > many:
        raise ParseError(many)
    if len(lines) < many or not is_whole:
        raise ParseError(len(lines))


def read_structure(text):
    """The structure with the text."""
    _check_text(text)
    lines, is_whole = _lines(text)
    if not lines:
        raise ParseError(0)
    first = _told(lines, 0, "structure", numbers_of(lines[0][1:], MOST_SIZE + 1, False))
    if len(first) != 3 or max(first[1:]) > MOST_RELATIONS:
        raise ParseError(0)
    size, marks, links = first
    told = [[], []]
    for index, words in enumerate(lines[1:1 + marks + links], start=1):
        if index <= marks:
            told[0].append(_told(lines, index, "mark", numbers_of(words[1:], size, True)))
        else:
            told[1].append(_told(lines, index, "link", pairs_of(words[1:], size)))
    _check_many(lines, is_whole, 1 + marks + links)
    return Structure(size, tuple(told[0]), tuple(told[1]))


def _told(lines, index, word, told):
    """What is told behind the first word of a line: ParseError of its index without this word, or if it is None."""
    if lines[index][0] != word or told is None:
        raise ParseError(index)
    return told


def read_reader(text):
    """The reader with the text."""
    _check_text(text)
    lines, is_whole = _lines(text)
    if not lines:
        raise ParseError(0)
    first = _told(lines, 0, "reader", numbers_of(lines[0][1:], MOST_STATES + 1, False))
    if len(first) != 2 or not 1 <= first[0] <= MOST_LETTERS or first[1] == 0:
        raise ParseError(0)
    letters, states = first
    steps = []
    for index, words in enumerate(lines[1:1 + states], start=1):
        steps.append(_told(lines, index, "step", numbers_of(words[1:], states, False)))
        if len(steps[-1]) != letters:
            raise ParseError(index)
    accepting = ()
    if len(lines) > 1 + states:
        accepting = _told(lines, 1 + states, "accepting", numbers_of(lines[1 + states][1:], states, True))
    _check_many(lines, is_whole, 2 + states)
    return Reader(letters, tuple(steps), accepting)


def formula_text(signature, free, formula):
    """The text of the formula."""
    check_signature(signature)
    check_members(free)
    check_formula(signature, free, formula)
    words = []
    waiting = [formula]
    while waiting:
        told = waiting.pop()
        if isinstance(told, tuple):
            # What stands first in the text is taken out first.
            waiting.extend(list(told)[::-1])
        else:
            words.append(f"{told}")
    return _joined([words])


def read_formula(signature, free, text):
    """The formula with the text."""
    check_signature(signature)
    check_members(free)
    _check_text(text)
    if text.find("\n") != len(text) - 1 or text == "":
        raise ParseError(None)
    return FormulaParsing(signature, free, text[:-1].split(" ")).read()
