"""Tests of the error classes [4]."""

import unittest

from wheelsky import errors

PLAIN = ["Mismatch", "Still", "Endless", "Looped", "Broken"]
FIELDS = {
    "BadValue": ["what"],
    "TooMany": ["limit"],
    "NoName": ["name"],
    "Taken": ["name"],
    "Locked": ["loop"],
    "ReadError": ["line", "column", "reason"],
}


class ErrorsTest(unittest.TestCase):
    def test_base(self):
        self.assertEqual(errors.SkyError.__bases__, (ValueError,))

    def test_each_is_a_direct_subclass(self):
        for name in PLAIN + list(FIELDS):
            self.assertEqual(getattr(errors, name).__bases__, (errors.SkyError,), name)

    def test_no_further_class(self):
        found = [name for name in vars(errors) if isinstance(getattr(errors, name), type)]
        self.assertEqual(sorted(found), sorted(PLAIN + list(FIELDS) + ["SkyError"]))

    def test_attributes_by_position(self):
        for name, fields in FIELDS.items():
            given = [object() for _ in fields]
            error = getattr(errors, name)(*given)
            self.assertEqual([getattr(error, field) for field in fields], given)
            self.assertEqual(sorted(vars(error)), sorted(fields))

    def test_without_attributes(self):
        for name in PLAIN:
            self.assertEqual(vars(getattr(errors, name)()), {})

    def test_loop_stays_one_list(self):
        loop = [(0, 1)]
        error = errors.Locked(loop)
        error.loop.append((1, -1))
        self.assertIs(error.loop, loop)
        self.assertEqual(error.loop, [(0, 1), (1, -1)])
