"""The examples of README.md give what it says."""

import doctest
import pathlib
import unittest

README = pathlib.Path(__file__).resolve().parent.parent / "README.md"


class ReadmeTest(unittest.TestCase):
    def test_examples(self):
        text = README.read_text().replace("```\n", "\n")
        examples = doctest.DocTestParser().get_doctest(text, {}, "README.md", str(README), 0)
        self.assertGreater(len(examples.examples), 8)
        told = []
        result = doctest.DocTestRunner().run(examples, out=told.append)
        self.assertEqual(result.failed, 0, "".join(told))


if __name__ == "__main__":
    unittest.main()
