"""The examples of README.md and of the document."""

import doctest
import pathlib
import unittest

from sumsaid.functions import least_from, value
from sumsaid.notation import parse_saying
from sumsaid.patterns import pattern_of
from sumsaid.sayings import says
from sumsaid.shapes import shape_of


class Examples(unittest.TestCase):
    def test_readme(self):
        path = pathlib.Path(__file__).parent.parent / "README.md"
        found = doctest.DocTestParser().get_doctest(fenced(path.read_text()), {}, "README.md", None, 0)
        self.assertGreater(len(found.examples), 5)
        results = doctest.DocTestRunner().run(found)
        self.assertEqual(results.failed, 0)

    def test_says(self):
        self.assertIs(says((("rest", (1, -2), 7, 0), ("there", 0)), (5,)), True)

    def test_pattern_of(self):
        saying = (("below", (1,), 3), ("rest", (1,), 2, 0), ("not", 0), ("both", 1, 2))
        self.assertEqual(pattern_of(saying, ()), ((False,), 3, (), (True, False)))

    def test_least_from(self):
        self.assertEqual(value(least_from((("rest", (1, 1), 3, 0),), 1, ((1,), 0)), (4,)), 5)

    def test_shape_of(self):
        saying = (("below", (1, -1), 0), ("rest", (0, 1), 2, 0), ("both", 0, 1))
        self.assertEqual(shape_of(least_from(saying, 1, ((), 3))),
                         (((0, 1, 4, 1),), 2, (), ((1, 1, 2, 1), (1, 1, 1, 1))))

    def test_parse_saying(self):
        self.assertEqual(parse_saying("there both below 2 -1 ; 5 rest 0 1 ; 3 1"),
                         (("below", (2, -1), 5), ("rest", (0, 1), 3, 1), ("both", 0, 1), ("there", 2)))


def fenced(text):
    """The blocks of a text between fences that hold examples."""
    return "\n".join(block for block in text.split("```")[1::2] if ">>>" in block)


if __name__ == "__main__":
    unittest.main()
