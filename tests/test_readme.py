"""The examples of README.md."""

import doctest
import os
import unittest

README = os.path.join(os.path.dirname(os.path.dirname(os.path.abspath(__file__))), "README.md")


class Readme(unittest.TestCase):
    def test_examples(self):
        with open(README, encoding="utf-8") as stream:
            # A fence would be read as a part of the answer above it.
            text = stream.read().replace("```", "")
        found = doctest.DocTestParser().get_doctest(text, {}, "README.md", README, 0)
        result = doctest.DocTestRunner().run(found)
        self.assertEqual(result.failed, 0)
        self.assertGreater(result.attempted, 10)


if __name__ == "__main__":
    unittest.main()
