"""The examples in README.md answer as they are written there."""

import doctest
import pathlib
import unittest

README = pathlib.Path(__file__).resolve().parent.parent / "README.md"


class TestReadme(unittest.TestCase):
    def test_examples(self):
        # A closing fence would else be taken for a part of the answer above it.
        text = README.read_text("utf-8").replace("```", "")
        example = doctest.DocTestParser().get_doctest(text, {}, "README.md", str(README), 0)
        self.assertGreater(len(example.examples), 0)
        rows = []
        result = doctest.DocTestRunner(verbose=False).run(example, out=rows.append)
        self.assertEqual(result.failed, 0, "".join(rows))


if __name__ == "__main__":
    unittest.main()
