"""The examples of README.md give what stands there."""

import doctest
import os
import unittest

README = os.path.join(os.path.dirname(os.path.dirname(os.path.abspath(__file__))), "README.md")


class Examples(unittest.TestCase):
    def test_they_give_what_stands_there(self):
        with open(README, encoding="utf-8") as file:
            # A fence just below an example would count as what it gives.
            text = file.read().replace("```", "")
        examples = doctest.DocTestParser().get_doctest(text, {}, "README.md", README, 0)
        result = doctest.DocTestRunner().run(examples)
        self.assertEqual(result.failed, 0)
        self.assertGreater(result.attempted, 0)


if __name__ == "__main__":
    unittest.main()
