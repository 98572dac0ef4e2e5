"""The examples of the document and of README.md."""

import doctest
import unittest
from pathlib import Path

TESTS = Path(__file__).resolve().parent


class ExamplesTest(unittest.TestCase):
    def check(self, path, least):
        failed, tried = doctest.testfile(str(path), module_relative=False, encoding="utf-8")
        self.assertEqual(failed, 0)
        self.assertGreaterEqual(tried, least)

    def test_document(self):
        self.check(TESTS / "examples.txt", 76)

    def test_readme(self):
        self.check(TESTS.parent / "README.md", 18)
