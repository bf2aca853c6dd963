"""The examples of README.md hold."""

import doctest
import unittest
from pathlib import Path

README = Path(__file__).resolve().parent.parent / "README.md"


class ReadmeTest(unittest.TestCase):
    def test_examples(self):
        # The fence behind an example would be taken for a part of what is expected.
        text = README.read_text(encoding="utf-8").replace("```", "\n")
        examples = doctest.DocTestParser().get_doctest(text, {}, "README.md", "README.md", 0)
        self.assertGreater(len(examples.examples), 5)
        self.assertEqual(doctest.DocTestRunner(verbose=False).run(examples).failed, 0)


if __name__ == "__main__":
    unittest.main()
