"""The rows that README.md shows."""

import doctest
import pathlib
import unittest

README = pathlib.Path(__file__).resolve().parent.parent / "README.md"


class TestReadme(unittest.TestCase):
    def test_rows(self):
        told = doctest.testfile(str(README), module_relative=False)
        self.assertEqual(0, told.failed)
        self.assertGreater(told.attempted, 0)


if __name__ == "__main__":
    unittest.main()
