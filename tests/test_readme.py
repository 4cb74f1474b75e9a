"""The examples of README.md."""

import doctest
import unittest
from pathlib import Path


class Readme(unittest.TestCase):

    def test_examples(self):
        path = Path(__file__).resolve().parent.parent / "README.md"
        found = doctest.testfile(str(path), module_relative=False)
        self.assertGreater(found.attempted, 0)
        self.assertEqual(found.failed, 0)


if __name__ == "__main__":
    unittest.main()
