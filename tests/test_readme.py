import doctest
import pathlib
import unittest

README = pathlib.Path(__file__).resolve().parent.parent / "README.md"


class Readme(unittest.TestCase):
    def test_what_it_shows_is_so(self):
        failed, tried = doctest.testfile(str(README), module_relative=False)
        self.assertGreater(tried, 0)
        self.assertEqual(failed, 0)
