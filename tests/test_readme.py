import doctest
import unittest
from pathlib import Path

README = Path(__file__).resolve().parent.parent / "README.md"


class ReadmeTest(unittest.TestCase):
    def test_examples(self):
        # The lines that end a block of code are no output.
        text = README.read_text(encoding="utf-8").replace("```", "")
        test = doctest.DocTestParser().get_doctest(text, {}, "README.md", str(README), 0)
        results = doctest.DocTestRunner().run(test)
        self.assertGreater(results.attempted, 10)
        self.assertEqual(results.failed, 0)
