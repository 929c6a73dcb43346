import doctest
import unittest
from pathlib import Path

README = Path(__file__).resolve().parent.parent / "README.md"


class Readme(unittest.TestCase):
    def test_its_examples(self):
        found = doctest.testfile(str(README), module_relative=False)
        self.assertGreater(found.attempted, 0)
        self.assertEqual(found.failed, 0)
