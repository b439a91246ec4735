"""The examples of the document, as they stand there."""

import doctest
import unittest
from pathlib import Path

HERE = Path(__file__).resolve().parent
DOCUMENT = HERE.parent.parent / "shared" / "DOC.md"


class ExamplesTest(unittest.TestCase):
    def setUp(self):
        self.text = (HERE / "examples.txt").read_text()

    def test_examples(self):
        test = doctest.DocTestParser().get_doctest(self.text, {}, "examples", "examples.txt", 0)
        self.assertEqual(len(test.examples), 102)
        told = []
        result = doctest.DocTestRunner(verbose=False).run(test, out=told.append)
        self.assertEqual((result.failed, result.attempted), (0, 102), "".join(told))

    def test_examples_of_the_readme(self):
        test = doctest.DocTestParser().get_doctest((HERE.parent / "README.md").read_text(), {}, "readme", "README.md", 0)
        told = []
        result = doctest.DocTestRunner(verbose=False).run(test, out=told.append)
        self.assertEqual(result.failed, 0, "".join(told))
        self.assertGreater(result.attempted, 5)

    def test_they_stand_in_the_document(self):
        if not DOCUMENT.exists():
            self.skipTest("the document is not beside the project")
        lines = DOCUMENT.read_text().split("\n")
        for line in self.text.split("\n"):
            if line.startswith("    "):
                self.assertIn(line, lines)


if __name__ == "__main__":
    unittest.main()
