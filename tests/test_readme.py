import doctest
import pathlib
import unittest

README = pathlib.Path(__file__).resolve().parent.parent / "README.md"


class ReadmeTest(unittest.TestCase):
    def test_examples(self):
        # The fence behind an example would count as its output.
        text = README.read_text().replace("```", "")
        examples = doctest.DocTestParser().get_doctest(text, {}, "README.md", None, 0)
        found = doctest.DocTestRunner().run(examples)
        self.assertGreater(found.attempted, 0)
        self.assertEqual(found.failed, 0)
