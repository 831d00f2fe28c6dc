"""The examples of README.md."""

import doctest
import unittest
from pathlib import Path


class ReadmeTest(unittest.TestCase):
    def test_examples(self):
        readme = Path(__file__).resolve().parent.parent / "README.md"
        result = doctest.testfile(str(readme), module_relative=False)
        self.assertGreater(result.attempted, 0)
        self.assertEqual(result.failed, 0)


if __name__ == "__main__":
    unittest.main()
