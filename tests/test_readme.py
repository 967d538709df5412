"""That the examples of README.md hold."""

import doctest
import unittest
from pathlib import Path

README = Path(__file__).parent.parent / "README.md"


class TestReadme(unittest.TestCase):
    def test_examples(self):
        # The fences around the examples are no part of what they show.
        text = README.read_text("ascii").replace("```\n", "\n")
        examples = doctest.DocTestParser().get_doctest(text, {}, "README.md", None, None)
        self.assertGreater(len(examples.examples), 20)
        self.assertEqual(doctest.DocTestRunner().run(examples).failed, 0)


if __name__ == "__main__":
    unittest.main()
