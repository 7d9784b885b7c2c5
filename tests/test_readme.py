"""The examples of README.md."""

import doctest
import unittest
from pathlib import Path

README = Path(__file__).resolve().parent.parent / "README.md"


class Examples(unittest.TestCase):
    def test_examples(self):
        # A line of three backquotes would be read as a part of the result ahead of it.
        text = README.read_text("ascii").replace("```", "")
        test = doctest.DocTestParser().get_doctest(text, {}, "README", str(README), 0)
        self.assertGreater(len(test.examples), 20)
        runner = doctest.DocTestRunner(verbose=False)
        report = []
        runner.run(test, out=report.append)
        self.assertEqual(runner.failures, 0, "".join(report))


if __name__ == "__main__":
    unittest.main()
