"""The examples of README.md and of the document."""

import doctest
import pathlib
import unittest

from sumsaid.patterns import pattern_of
from sumsaid.sayings import says


class Examples(unittest.TestCase):
    def test_readme(self):
        path = pathlib.Path(__file__).parent.parent / "README.md"
        found = doctest.DocTestParser().get_doctest(fenced(path.read_text()), {}, "README.md", None, 0)
        self.assertGreater(len(found.examples), 5)
        results = doctest.DocTestRunner().run(found)
        self.assertEqual(results.failed, 0)

    def test_says(self):
        self.assertIs(says((("rest", (1, -2), 7, 0), ("there", 0)), (5,)), True)

    def test_pattern_of(self):
        saying = (("below", (1,), 3), ("rest", (1,), 2, 0), ("not", 0), ("both", 1, 2))
        self.assertEqual(pattern_of(saying, ()), ((False,), 3, (), (True, False)))


def fenced(text):
    """The blocks of a text between fences that hold examples."""
    return "\n".join(block for block in text.split("```")[1::2] if ">>>" in block)


if __name__ == "__main__":
    unittest.main()
