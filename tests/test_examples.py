"""The examples that the document prints, word for word."""

import doctest
import unittest
from pathlib import Path


class Examples(unittest.TestCase):
    def test_examples(self):
        text = Path(__file__).with_name("examples.txt").read_text(encoding="utf-8")
        example = doctest.DocTestParser().get_doctest(text, {}, "examples", "examples.txt", 0)
        runner = doctest.DocTestRunner(verbose=False)
        runner.run(example)
        self.assertEqual((runner.failures, runner.tries), (0, 87))


if __name__ == "__main__":
    unittest.main()
