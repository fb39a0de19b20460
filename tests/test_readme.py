"""The examples of README.md."""

import doctest
import os
import unittest

README = os.path.join(os.path.dirname(os.path.dirname(os.path.abspath(__file__))), "README.md")


class Readme(unittest.TestCase):
    def test_examples(self):
        failed, tried = doctest.testfile(README, module_relative=False)
        self.assertGreater(tried, 5)
        self.assertEqual(failed, 0)


if __name__ == "__main__":
    unittest.main()
