"""The examples of README.md."""

import doctest
import pathlib
import unittest

README = pathlib.Path(__file__).resolve().parent.parent / "README.md"


class Readme(unittest.TestCase):
    def test_examples(self):
        text = README.read_text(encoding="utf-8").replace("```", "")
        examples = doctest.DocTestParser().get_doctest(text, {}, README.name, str(README), 0)
        results = doctest.DocTestRunner().run(examples)
        self.assertGreater(results.attempted, 10)
        self.assertEqual(results.failed, 0)


if __name__ == "__main__":
    unittest.main()
