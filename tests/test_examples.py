"""The examples of the document and of README.md."""

import doctest
import unittest
from pathlib import Path

from wheelsky.errors import SkyError

TESTS = Path(__file__).resolve().parent


def told(example, names):
    """Run an example and return what the document would show for it."""
    try:
        code = compile(example.source, "example", "eval")
    except SyntaxError:
        exec(example.source, names)
        return ""
    try:
        value = eval(code, names)
    except SkyError as error:
        items = ", ".join(repr(item) for item in vars(error).values())
        return f"raises {type(error).__name__}({items})\n"
    return "" if value is None else f"{value!r}\n"


class ExamplesTest(unittest.TestCase):
    def check(self, path, least):
        examples = doctest.DocTestParser().get_examples(path.read_text(encoding="utf-8"))
        self.assertGreaterEqual(len(examples), least)
        names = {}
        for example in examples:
            with self.subTest(source=example.source):
                self.assertEqual(told(example, names), example.want)

    def test_document(self):
        self.check(TESTS / "examples.txt", 124)

    def test_readme(self):
        self.check(TESTS.parent / "README.md", 38)
