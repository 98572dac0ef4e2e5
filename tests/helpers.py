"""What the tests have in common."""

import copy
import unittest
from fractions import Fraction

from wheelsky.cycles import Cycle
from wheelsky.darkening import Shade
from wheelsky.dates import Calendar, TwinCalendar
from wheelsky.errors import BadValue, Endless, Locked, Looped, Mismatch, NoName, Taken, TooMany
from wheelsky.mixed import Mixed
from wheelsky.motions import Motion
from wheelsky.plans import Plan
from wheelsky.shafts import Work
from wheelsky.skies import Sky
from wheelsky.slots import Slot
from wheelsky.spans import Span
from wheelsky.workshop import Workshop, built


def f(numerator, denominator=1):
    """Return the fraction of the package with this value; the numerator may be a Fraction."""
    value = Fraction(numerator) / denominator
    return (value.numerator, value.denominator)


def num(pair):
    """Return the value of a fraction of the package."""
    return Fraction(pair[0], pair[1])


def ends(spans):
    """Return the ends of the spans."""
    return [(span.first, span.last) for span in spans]


def nested(value, levels):
    """Return the value within as many lists, tuples and dicts."""
    for level in range(levels):
        value = ([value], (value,), {"a": value})[level % 3]
    return value


def objects():
    """Return objects of the package."""
    work = Work([("a", "x", 10), ("b", "y", 20)], [("mesh", "a", "b")], driver="x")
    return [
        Span((0, 1), (1, 1)),
        Cycle((1, 2)),
        Mixed(1, (2,), radices=(4,)),
        Sky([("a", Cycle((1, 2)))]),
        BadValue("x"),
        Mismatch(),
        work,
        Slot([((0, 1), (1, 2))]),
        Motion([((1, 1), Cycle((1, 2)), Slot([((0, 1), (0, 1))]))]),
        Calendar((0, 1), short=29),
        TwinCalendar(Calendar((0, 1), short=29), Calendar((0,), short=12)),
        Locked([(0, 1)]),
        Shade(Cycle((0, 1)), Cycle((1, 3)), Cycle((1, 10)), width=(1, 5)),
        Plan(Sky([]), [], work, [("m", "x", (0, 1), None, None)]),
        Workshop(),
        built(work),
    ]


def objects_but(kind):
    """Return objects of the package that are not of one class."""
    return [thing for thing in objects() if not isinstance(thing, kind)]


def odd_values():
    """Return values of every kind that no judge but one of the simplest takes for right."""
    plain = [None, True, False, 0, 1, -1, 7, 10 ** 39, "", "a", "always", "(1, 2)"]
    rows = [[], (), {}, [0], (0,), [1, 2], (1, 2, 3), (True, 1), (1, True), (False, 1), ("1", 1), {"a": 1}]
    rows += [(2, 4), (1, 0), (1, -2), (0, 2), (0, 0), (None, 1), ((1, 2), (1, 2)), {1: 2}, [(1, 2)]]
    rows += [("always",), ("never",), ("every",), ("always", ()), ["always"], ("never", ()), ("every", 1, 2, 3)]
    rows += [((0, 1), (1, 1)), ((0, 1), (0, 1)), (0, 0, 1), ((0, -1),), [(0, 2)], [(True, 1)], [(0, True)], [0, 1]]
    rows += [((1, 2), ()), ((1, 2), (1,)), [((0, 1), (1, 1), None)], [((0, 1), (1, 1))], [None], [()]]
    deep = [nested(1, 20), nested((1, 2), 19), nested("a", 20), nested(Span((0, 1), (1, 1)), 20)]
    held = [[thing] for thing in objects()] + [(thing, thing) for thing in objects()]
    return plain + rows + deep + objects() + held


def not_integers():
    """Return values that are no integers."""
    return [value for value in odd_values() if type(value) is not int] + [1.0]


def not_fractions():
    """Return values that are no fractions."""
    return odd_values() + [1.5, Fraction(1, 2)]


class SkyCase(unittest.TestCase):
    """A test case that knows the errors of the package."""

    def assert_error(self, error, attributes, call, *given, **named):
        """Check that the call raises exactly this error with these attributes."""
        try:
            answer = call(*given, **named)
        except error as caught:
            self.assertIs(type(caught), error)
            for name, value in attributes.items():
                self.assertEqual(getattr(caught, name), value)
                self.assertIs(type(getattr(caught, name)), type(value))
            return
        self.fail(f"{error.__name__} {attributes} was due, but the answer was {answer!r}")

    def assert_bad(self, what, call, *given, **named):
        self.assert_error(BadValue, {"what": what}, call, *given, **named)

    def assert_many(self, limit, call, *given, **named):
        self.assert_error(TooMany, {"limit": limit}, call, *given, **named)

    def assert_mismatch(self, call, *given, **named):
        self.assert_error(Mismatch, {}, call, *given, **named)

    def assert_endless(self, call, *given, **named):
        self.assert_error(Endless, {}, call, *given, **named)

    def assert_looped(self, call, *given, **named):
        self.assert_error(Looped, {}, call, *given, **named)

    def assert_locked(self, call, *given, **named):
        """Check that the call raises Locked, and return its loop."""
        try:
            answer = call(*given, **named)
        except Locked as caught:
            self.assertIs(type(caught), Locked)
            self.assertIs(caught.loop, caught.loop)
            return caught.loop
        self.fail(f"Locked was due, but the answer was {answer!r}")

    def assert_no_name(self, name, call, *given, **named):
        self.assert_error(NoName, {"name": name}, call, *given, **named)

    def assert_taken(self, name, call, *given, **named):
        self.assert_error(Taken, {"name": name}, call, *given, **named)

    def assert_true(self, value):
        self.assertIs(value, True)

    def assert_false(self, value):
        self.assertIs(value, False)

    def assert_fraction(self, value):
        """Check that the value has the form of all fractions that the program returns."""
        self.assertIs(type(value), tuple)
        self.assertEqual([type(item) for item in value], [int, int])
        self.assertEqual(value, f(Fraction(*value)))
        self.assertGreaterEqual(value[1], 1)

    def assert_unchanged(self, lists, call, *given, **named):
        """Check that a call leaves the lists as they are; return its answer."""
        before = [list(rows) for rows in lists]
        answer = call(*given, **named)
        self.assertEqual([list(rows) for rows in lists], before)
        return answer

    def assert_judges_all(self, judge):
        """Check that a judge says False of each odd value and leaves it as it is."""
        for value in odd_values():
            before = copy.deepcopy(value) if not _holds_error(value) else None
            self.assert_false(judge(value))
            if before is not None:
                self.assertEqual(repr_of(value), repr_of(before))


def _holds_error(value):
    if isinstance(value, (list, tuple)):
        return any(_holds_error(item) for item in value)
    return isinstance(value, Exception)


def repr_of(value):
    """Return a text of a value in which objects are told by their attributes."""
    if isinstance(value, (list, tuple)):
        return f"{type(value).__name__}{[repr_of(item) for item in value]}"
    if isinstance(value, dict):
        return f"dict{[(repr_of(key), repr_of(value[key])) for key in value]}"
    if hasattr(value, "__dict__"):
        return f"{type(value).__name__}{repr_of(vars(value))}"
    return f"{type(value).__name__} {value!r}"
