import doctest
import pathlib
import unittest

README = pathlib.Path(__file__).resolve().parent.parent / "README.md"


class Readme(unittest.TestCase):
    def test_examples(self):
        found = doctest.testfile(str(README), module_relative=False)
        self.assertGreater(found.attempted, 10)
        self.assertEqual(found.failed, 0)
