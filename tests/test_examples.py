"""The examples of the document, word for word."""

import os
import re
import unittest

import wholebyparts.errors
from tests.helpers import attribute_of

PLACE = os.path.join(os.path.dirname(__file__), "examples.txt")
MODULES = {
    1: ("wholebyparts.part.structures",),
    2: ("wholebyparts.say.formulas",),
    3: ("wholebyparts.say.meaning", "wholebyparts.part.structures"),
    4: ("wholebyparts.kinds.kinds", "wholebyparts.part.structures"),
    5: ("wholebyparts.kinds.parting", "wholebyparts.kinds.kinds", "wholebyparts.part.structures",
        "wholebyparts.say.meaning"),
    6: ("wholebyparts.kinds.games", "wholebyparts.part.structures"),
    7: ("wholebyparts.read.readers",),
    8: ("wholebyparts.read.making", "wholebyparts.read.readers"),
    9: ("wholebyparts.read.sets", "wholebyparts.read.readers"),
    10: ("wholebyparts.read.counts", "wholebyparts.read.readers"),
    11: ("wholebyparts.shape.rules", "wholebyparts.part.structures", "wholebyparts.read.readers"),
    12: ("wholebyparts.shape.shapes", "wholebyparts.shape.rules", "wholebyparts.shape.wholes",
         "wholebyparts.part.structures", "wholebyparts.read.readers"),
    13: ("wholebyparts.shape.wholes", "wholebyparts.shape.shapes", "wholebyparts.part.structures"),
    14: ("wholebyparts.main.machine", "wholebyparts.shape.shapes", "wholebyparts.part.structures",
         "wholebyparts.read.readers"),
    15: ("wholebyparts.main.asked", "wholebyparts.shape.shapes", "wholebyparts.part.structures"),
    16: ("wholebyparts.main.exchange", "wholebyparts.shape.shapes", "wholebyparts.part.structures"),
    17: ("wholebyparts.main.reduction", "wholebyparts.shape.shapes", "wholebyparts.part.structures",
         "wholebyparts.read.readers"),
    18: ("wholebyparts.main.powers", "wholebyparts.shape.rules", "wholebyparts.shape.shapes",
         "wholebyparts.part.structures"),
    19: ("wholebyparts.main.gaps", "wholebyparts.shape.shapes", "wholebyparts.say.meaning",
         "wholebyparts.part.structures"),
    20: ("wholebyparts.main.wholekinds", "wholebyparts.kinds.kinds", "wholebyparts.shape.shapes",
         "wholebyparts.part.structures"),
    21: ("wholebyparts.judge.claims", "wholebyparts.text.texts", "wholebyparts.part.structures",
         "wholebyparts.read.readers"),
    22: ("wholebyparts.house.desk", "wholebyparts.shape.shapes", "wholebyparts.part.structures"),
}


def blocks():
    """The stage and the lines of each block of examples."""
    found = []
    with open(PLACE, encoding="ascii") as file:
        for line in file.read().splitlines():
            if line.startswith("# Stage "):
                found.append((int(line[8:]), []))
            else:
                found[-1][1].append(line)
    return found


class Examples(unittest.TestCase):
    def names_of(self, stage):
        names = {}
        for path in reversed(MODULES[stage]):
            exec(f"from {path} import *", names)
        return names

    def check_raised(self, names, said, wanted):
        found = re.fullmatch(r"raises (\w+)(?:\((.*)\))?", wanted)
        kind = getattr(wholebyparts.errors, found.group(1))
        with self.assertRaises(kind) as caught:
            eval(said, names)
        self.assertIs(type(caught.exception), kind)
        if found.group(2) is not None:
            self.assertEqual(repr(attribute_of(caught.exception)), found.group(2))

    def check_block(self, stage, lines):
        names = self.names_of(stage)
        checked = 0
        for line, wanted in zip(lines, [*lines[1:], ">>> "]):
            if not line.startswith(">>> "):
                continue
            if wanted.startswith(">>> "):
                exec(line[4:], names)
            elif wanted.startswith("raises "):
                self.check_raised(names, line[4:], wanted)
                checked += 1
            else:
                self.assertEqual(repr(eval(line[4:], names)), wanted, line)
                checked += 1
        return checked

    def test_all(self):
        found = blocks()
        self.assertEqual([stage for stage, _ in found], sorted(MODULES))
        for stage, lines in found:
            with self.subTest(stage=stage):
                self.assertEqual(self.check_block(stage, lines), len([x for x in lines if not x.startswith(">>> ")]))


if __name__ == "__main__":
    unittest.main()
