"""Tests of works [3] [4] [5] [6] [7] [8] [10] [31] [32] [33] [34] [75]."""

import random
from fractions import Fraction

from tests.helpers import SkyCase, f, not_fractions, not_integers, num, objects, objects_but, odd_values
from tests.test_skies import NAMES, NOT_NAMES
from wheelsky.errors import Locked
from wheelsky.shafts import Work, is_lock_loop, is_path, step_factor

WHEELS = [("a", "x", 10), ("b", "y", 20), ("c", "y", 5), ("d", "z", 15), ("e", "w", 7), ("g", "v", 9)]
LINKS = [("mesh", "a", "b"), ("mesh", "d", "c")]
WORK = Work(WHEELS[:4], LINKS, driver="x")
# Three wheels in a ring, each against the next one.
RING = Work([("a", "x", 10), ("b", "y", 10), ("c", "z", 10)],
            [("mesh", "a", "b"), ("mesh", "b", "c"), ("mesh", "c", "a")], driver="x")
# A ring that turns, as it has an even number of wheels.
SQUARE = Work([("a", "x", 10), ("b", "y", 12), ("c", "z", 14), ("d", "w", 16)],
              [("mesh", "a", "b"), ("mesh", "b", "c"), ("mesh", "c", "d"), ("mesh", "d", "a")], driver="x")
# The ring is on shafts that the driver does not reach.
LOOSE_RING = Work([("a", "x", 10), ("b", "y", 10), ("c", "z", 10), ("d", "w", 10), ("e", "v", 20)],
                  [("mesh", "a", "b"), ("mesh", "b", "c"), ("mesh", "c", "a"), ("mesh", "d", "e")], driver="w")
NOT_WORKS = [None, True, 1, "x", [], (), {}, (WHEELS, LINKS, "x")] + objects_but(Work)


def chain(count):
    """Return as many wheels as told on shafts of their own."""
    return [(f"w{number}", f"s{number}", 10 + number) for number in range(count)]


def legs(work):
    """Return (step, begin, end, factor) for each step, from the meaning."""
    known = {wheel: (shaft, teeth) for wheel, shaft, teeth in work.wheels}
    rows = []
    for number, link in enumerate(work.links):
        if link[0] == "mesh":
            (begin, near), (end, far) = known[link[1]], known[link[2]]
            factor = Fraction(-near, far)
        else:
            begin, end, factor = link[1], link[2], Fraction(1)
        rows += [((number, 1), begin, end, factor), ((number, -1), end, begin, 1 / factor)]
    return rows


def all_paths(work, shaft):
    """Return all paths to a shaft, as tuples (steps, product)."""
    rows = legs(work)
    found = []

    def walk(at, passed, steps, product):
        if at == shaft:
            found.append((steps, product))
        for step, begin, end, factor in rows:
            if begin == at and end not in passed:
                walk(end, passed + [end], steps + [step], product * factor)

    walk(work.driver, [work.driver], [], Fraction(1))
    return found


def is_walk(work, steps):
    """Return (begin, end, product) of steps that follow one another, or None."""
    rows = {step: row for step, *row in legs(work)}
    if not steps or any(step not in rows for step in steps):
        return None
    for before, after in zip(steps, steps[1:]):
        if rows[before][1] != rows[after][0]:
            return None
    product = Fraction(1)
    for step in steps:
        product *= rows[step][2]
    return rows[steps[0]][0], rows[steps[-1]][1], product


def slow_is_loop(work, steps):
    """Judge a list of well formed steps by the words of the document."""
    walk = is_walk(work, steps)
    return len(steps) <= 24 and walk is not None and walk[0] == walk[1] and walk[2] != 1 and bool(
        all_paths(work, walk[0]))


def seeded_works(seed, many):
    """Return works of a few shafts, of which many are locked, looped or in several parts."""
    source = random.Random(seed)
    works = []
    while len(works) < many:
        shafts = [f"s{number}" for number in range(source.randint(1, 6))]
        wheels = [(f"w{number}", source.choice(shafts), source.choice((4, 5, 6, 8, 10, 12)))
                  for number in range(source.randint(1, 9))]
        known = {wheel: shaft for wheel, shaft, _ in wheels}
        links = []
        for _ in range(source.randint(0, 7)):
            near, far = source.choice(wheels), source.choice(wheels)
            if near[1] == far[1]:
                continue
            if source.random() < 0.4:
                links.append(("joint", near[1], far[1], f(source.randint(0, 4), 8)))
            else:
                links.append(("mesh", near[0], far[0]))
        works.append(Work(wheels, links, driver=source.choice(sorted(known.values()))))
    return works


class WorkTest(SkyCase):
    def test_attributes(self):
        work = self.assert_unchanged([WHEELS, LINKS], Work, WHEELS, LINKS, driver="z")
        self.assertEqual((work.wheels, work.links, work.driver), (WHEELS, LINKS, "z"))
        self.assertEqual(work.shafts(), ["x", "y", "z", "w", "v"])
        self.assertIs(type(work.wheels), list)
        self.assertIs(type(work.links), list)

    def test_lists_are_new_and_stay(self):
        wheels, links = list(WHEELS), list(LINKS)
        work = Work(wheels, links, driver="x")
        wheels.clear()
        links.append(("mesh", "a", "d"))
        for rows in (work.wheels, work.links, work.shafts(), work.path("z"), work.path("x"), work.ways()):
            rows.append(None)
            rows.reverse()
        self.assertEqual((work.wheels, work.links, work.driver), (WHEELS, LINKS, "x"))
        self.assertEqual(work.shafts(), ["x", "y", "z", "w", "v"])
        self.assertEqual((work.path("x"), work.path("z")), ([], [(0, 1), (1, -1)]))
        self.assertEqual(len(work.ways()), 5)

    def test_sizes(self):
        one = Work([("a", "x", 1)], [], driver="x")
        self.assertEqual((one.shafts(), one.path("x"), one.ways()), (["x"], [], [("x", 1)]))
        rows = chain(13)
        links = [("mesh", f"w{number}", f"w{number + 1}") for number in range(11)]
        links.append(("mesh", "w0", "w11"))
        work = Work(rows[:12], links, driver="s0")
        self.assertEqual((work.wheels, work.links), (rows[:12], links))
        self.assert_bad("wheels", Work, rows, [], driver="s0")
        self.assert_bad("wheels", Work, [], [], driver="s0")
        self.assert_bad("links", Work, rows[:12], links + links[:1], driver="s0")

    def test_wrong_wheels(self):
        wrong = [tuple(WHEELS), None, {}, "a", 1, True, WHEELS[0], [list(WHEELS[0])], [WHEELS[0][:2]]]
        wrong += [[WHEELS[0] + (1,)], [()], [None], WHEELS + [None]] + objects()
        wrong += [[WHEELS[0], (name, "x", 10)] for name in NOT_NAMES] + [[("a", name, 10)] for name in NOT_NAMES]
        wrong += [[("a", "x", teeth)] for teeth in not_integers() + [0, -1, 1001, 10 ** 39]]
        # One wrong row goes ahead of names that are taken.
        wrong += [[WHEELS[0], WHEELS[0], None]]
        for wheels in wrong:
            self.assert_bad("wheels", Work, wheels, None, driver=None)

    def test_wrong_links(self):
        wrong = [tuple(LINKS), None, {}, "a", 1, True, LINKS[0], [list(LINKS[0])], [()], [None], LINKS + [None]]
        wrong += [[("mesh", "a")], [("mesh", "a", "b", (0, 1))], [("joint", "x", "y")]]
        wrong += [[("mesh",)], [("link", "a", "b")]]
        wrong += [[("joint", "x", "y", (0, 1), 1)], [("Mesh", "a", "b")], [(None, "a", "b")], [(["mesh"], "a", "b")]]
        for name in NOT_NAMES:
            wrong += [[("mesh", name, "b")], [("mesh", "a", name)]]
            wrong += [[("joint", name, "y", (0, 1))], [("joint", "x", name, (0, 1))]]
        wrong += [[("joint", "x", "y", play)] for play in not_fractions() + [(-1, 1), (-1, 10 ** 39)]]
        for links in wrong + objects():
            self.assert_bad("links", Work, WHEELS[:1] * 2, links, driver=None)

    def test_wrong_drivers(self):
        for driver in NOT_NAMES + objects():
            self.assert_bad("driver", Work, WHEELS[:1] * 2, [("mesh", "q", "q")], driver=driver)

    def test_names_of_all_lengths(self):
        for name in NAMES:
            work = Work([(name, name, 1000), ("other", "other1", 1)], [("mesh", name, "other")], driver=name)
            self.assertEqual(work.shaft_rate("other1"), (-1000, 1))

    def test_taken(self):
        rows = [("a", "x", 1), ("b", "x", 1), ("b", "y", 1), ("a", "y", 1)]
        self.assert_taken("b", Work, rows, [("mesh", "q", "q")], driver="q")
        self.assert_taken("a", Work, [("a", "x", 1), ("a", "x", 1)], [], driver="x")

    def test_unknown_names_and_equal_shafts_link_by_link(self):
        same = ("mesh", "b", "c")
        for bad, name in ((("mesh", "q", "r"), "q"), (("mesh", "a", "r"), "r"), (("joint", "q", "r", (0, 1)), "q"),
                          (("joint", "x", "r", (0, 1)), "r"), (("joint", "a", "x", (0, 1)), "a"),
                          (("mesh", "x", "a"), "x"), (("mesh", "q", "q"), "q")):
            self.assert_no_name(name, Work, WHEELS, LINKS + [bad], driver="q0")
            self.assert_no_name(name, Work, WHEELS, [bad, same], driver="q0")
            self.assert_mismatch(Work, WHEELS, [same, bad], driver="q0")
        for bad in (same, ("mesh", "a", "a"), ("joint", "x", "x", (1, 2)), ("mesh", "c", "b")):
            self.assert_mismatch(Work, WHEELS, [bad], driver="q0")
            self.assert_mismatch(Work, WHEELS, [bad, ("mesh", "q", "r")], driver="x")
        self.assert_no_name("q0", Work, WHEELS, LINKS, driver="q0")
        # A wheel is no shaft.
        self.assert_no_name("a", Work, WHEELS, LINKS, driver="a")

    def test_wheels_called_like_shafts(self):
        work = Work([("x", "y", 10), ("y", "x", 30)], [("mesh", "x", "y"), ("joint", "x", "y", (0, 1))], driver="x")
        self.assertEqual(work.path("y"), [(0, -1)])
        self.assertEqual(step_factor(work, (0, 1)), (-1, 3))
        self.assertEqual(step_factor(work, (0, -1)), (-3, 1))
        self.assertEqual(step_factor(work, (1, 1)), (1, 1))

    def test_equality(self):
        self.assert_true(WORK == Work(WHEELS[:4], LINKS, driver="x"))
        self.assert_false(WORK != Work(WHEELS[:4], LINKS, driver="x"))
        others = [Work(WHEELS[:4], LINKS, driver="y"), Work(WHEELS[:5], LINKS, driver="x")]
        others += [Work(WHEELS[:4], LINKS[:1], driver="x"), Work(WHEELS[:4], LINKS[::-1], driver="x")]
        others += [Work(WHEELS[3::-1], LINKS, driver="x"), Work(WHEELS[:3] + [("d", "z", 16)], LINKS, driver="x")]
        others += [Work(WHEELS[:4], [LINKS[0], ("mesh", "c", "d")], driver="x")]
        for other in others + [None, True, 0, "x", [], (WHEELS, LINKS, "x")] + objects():
            self.assert_false(WORK == other)
            self.assert_true(WORK != other)
        joint = Work(WHEELS, [("joint", "x", "y", (1, 2))], driver="x")
        self.assert_false(joint == Work(WHEELS, [("joint", "x", "y", (1, 3))], driver="x"))


class PathTest(SkyCase):
    def test_example(self):
        self.assertEqual((WORK.path("z"), WORK.shaft_rate("z")), ([(0, 1), (1, -1)], (1, 6)))
        self.assertEqual(WORK.ways(), [("x", 1), ("y", -1), ("z", 1)])

    def test_seeded(self):
        linked = loose = 0
        for work in seeded_works(1, 300):
            for shaft in work.shafts():
                path = work.path(shaft)
                expected = [steps for steps, _ in all_paths(work, shaft)]
                if not expected:
                    self.assertIsNone(path)
                    loose += 1
                else:
                    self.assertIn(path, expected)
                    self.assertIs(type(path), list)
                    self.assert_true(is_path(work, shaft, path))
                    linked += 1
            self.assertEqual(work.path(work.driver), [])
        self.assertGreater(min(linked, loose), 150)

    def test_locked_works_have_paths(self):
        self.assertEqual(RING.path("x"), [])
        self.assertIn(RING.path("y"), ([(0, 1)], [(2, -1), (1, -1)]))
        self.assert_true(is_path(RING, "y", [(2, -1), (1, -1)]))

    def test_the_longest(self):
        links = [("mesh", f"w{number + 1}", f"w{number}") for number in range(11)]
        work = Work(chain(12), links, driver="s0")
        self.assertEqual(work.path("s11"), [(number, -1) for number in range(11)])
        self.assertEqual(work.shaft_rate("s11"), (-10, 21))

    def test_names(self):
        for work in (WORK, RING):
            for shaft in NOT_NAMES:
                for call in (work.path, work.shaft_rate, work.slack_bound):
                    self.assert_bad("shaft", call, shaft)
                self.assert_bad("shaft", is_path, work, shaft, None)
            for call in (work.path, work.shaft_rate, work.slack_bound):
                self.assert_no_name("a", call, "a")
            self.assert_no_name("a", is_path, work, "a", [])
            self.assert_no_name("q", is_path, work, "q", None)


class LockTest(SkyCase):
    def test_rings(self):
        loop = RING.lock_loop()
        self.assertTrue(slow_is_loop(RING, loop))
        self.assertIsNone(SQUARE.lock_loop())
        self.assertIsNone(LOOSE_RING.lock_loop())
        self.assertIsNone(WORK.lock_loop())

    def test_seeded(self):
        locked = free = 0
        for work in seeded_works(2, 400):
            products = {shaft: {product for _, product in all_paths(work, shaft)} for shaft in work.shafts()}
            # Around a loop that locks, its shafts are reached on both ways, with two products.
            is_locked = any(len(rows) > 1 for rows in products.values())
            loop = work.lock_loop()
            self.assertEqual(loop is not None, is_locked)
            if is_locked:
                locked += 1
                self.assertTrue(slow_is_loop(work, loop))
                self.assert_true(is_lock_loop(work, loop))
                self.assertEqual(work.lock_loop(), loop)
                self.check_errors(work)
            else:
                free += 1
                for shaft in work.shafts():
                    expected = [f(product) for product in products[shaft]]
                    self.assertEqual([work.shaft_rate(shaft)], expected or [None])
                ways = [(shaft, (max(rows) > 0) - (max(rows) < 0) if rows else 0) for shaft, rows in products.items()]
                self.assertEqual(work.ways(), ways)
        self.assertGreater(min(locked, free), 80)

    def check_errors(self, work):
        """Check the errors of a locked work, and that no two of them share a loop."""
        loops = [self.assert_locked(work.shaft_rate, shaft) for shaft in work.shafts()]
        loops += [self.assert_locked(work.ways), self.assert_locked(work.ways)]
        for loop in loops:
            self.assertTrue(slow_is_loop(work, loop))
        right = [list(loop) for loop in loops]
        for number, loop in enumerate(loops):
            loop.clear()
            self.assertEqual([len(other) for other in loops[number + 1:]], [len(row) for row in right[number + 1:]])
        self.assertTrue(slow_is_loop(work, work.lock_loop()))

    def test_the_list_of_an_error_is_its_own(self):
        mine = RING.lock_loop()
        try:
            RING.ways()
        except Locked as caught:
            error = caught
            kept = caught.loop
        kept.append("more")
        self.assertIs(error.loop, kept)
        self.assertEqual(error.loop[-1], "more")
        self.assertEqual(RING.lock_loop(), mine)
        mine.clear()
        self.assertTrue(slow_is_loop(RING, RING.lock_loop()))
        self.assertNotIn("more", self.assert_locked(RING.ways))

    def test_locked_for_every_shaft(self):
        more = Work(RING.wheels + [("d", "w", 10)], RING.links, driver="x")
        for shaft in ("x", "y", "z", "w"):
            self.assert_locked(more.shaft_rate, shaft)
        self.assertIsNone(more.path("w"))
        self.assert_no_name("q", more.shaft_rate, "q")
        self.assert_bad("shaft", more.shaft_rate, "Q")

    def test_loops_among_loose_shafts(self):
        self.assertEqual(LOOSE_RING.shaft_rate("v"), (-1, 2))
        self.assertIsNone(LOOSE_RING.shaft_rate("x"))
        self.assertEqual(LOOSE_RING.ways(), [("x", 0), ("y", 0), ("z", 0), ("w", 1), ("v", -1)])
        self.assert_false(is_lock_loop(LOOSE_RING, RING.lock_loop()))
        self.assert_false(is_lock_loop(LOOSE_RING, [(0, 1), (1, 1), (2, 1)]))
        self.assert_true(is_lock_loop(RING, [(0, 1), (1, 1), (2, 1)]))

    def test_two_meshes_of_two_shafts(self):
        wheels = [("a", "x", 10), ("b", "x", 20), ("c", "y", 20), ("d", "y", 40)]
        links = [("mesh", "a", "c"), ("mesh", "b", "d")]
        self.assertIsNone(Work(wheels, links, driver="x").lock_loop())
        twice = Work(wheels, links + [("mesh", "a", "c"), ("mesh", "c", "a")], driver="y")
        self.assertIsNone(twice.lock_loop())
        self.assertEqual(twice.shaft_rate("x"), (-2, 1))
        locked = Work(wheels, links + [("mesh", "a", "d")], driver="y")
        self.assertTrue(slow_is_loop(locked, locked.lock_loop()))
        joint = Work(wheels, links + [("joint", "x", "y", (1, 2))], driver="x")
        self.assertTrue(slow_is_loop(joint, joint.lock_loop()))

    def test_the_longest_loop_told(self):
        wheels = chain(12)
        for driver in range(12):
            links = [("mesh", f"w{number}", f"w{(number + 1) % 12}") for number in range(11)]
            links.append(("joint", "s11", "s0", (0, 1)))
            work = Work(wheels, links, driver=f"s{driver}")
            loop = work.lock_loop()
            self.assertTrue(slow_is_loop(work, loop))
            self.assert_true(is_lock_loop(work, loop))


class SlackBoundTest(SkyCase):
    def test_joints_and_meshes(self):
        wheels = [("a", "p", 10), ("b", "q", 20), ("c", "r", 30), ("d", "s", 15), ("e", "t", 9)]
        links = [("joint", "q", "p", (1, 8)), ("mesh", "b", "c"), ("joint", "r", "s", (1, 3)), ("mesh", "d", "e")]
        work = Work(wheels, links, driver="p")
        self.assertEqual(work.slack_bound("p"), (0, 1))
        self.assertEqual(work.slack_bound("q"), (1, 8))
        self.assertEqual(work.slack_bound("r"), (1, 12))
        self.assertEqual(work.slack_bound("s"), f(Fraction(1, 12) + Fraction(1, 3)))
        self.assertEqual(work.slack_bound("t"), f(Fraction(5, 12) * Fraction(15, 9)))
        self.assertEqual(Work(wheels, links, driver="t").slack_bound("p"),
                         f(Fraction(1, 3) * Fraction(30, 20) + Fraction(1, 8)))

    def test_seeded(self):
        bounds = 0
        for work in seeded_works(3, 400):
            linked = [shaft for shaft in work.shafts() if all_paths(work, shaft)]
            within = [step for step, begin, _, _ in legs(work) if begin in linked and step[1] == 1]
            looped = len(within) >= len(linked)
            factors = {step: factor for step, _, _, factor in legs(work)}
            for shaft in work.shafts():
                if looped:
                    self.assert_looped(work.slack_bound, shaft)
                    continue
                if shaft not in linked:
                    self.assertIsNone(work.slack_bound(shaft))
                    continue
                (path, _), = all_paths(work, shaft)
                bound = Fraction(0)
                for index, step in enumerate(path):
                    if work.links[step[0]][0] == "joint":
                        share = num(work.links[step[0]][3])
                        for later in path[index + 1:]:
                            share *= abs(factors[later])
                        bound += share
                self.assertEqual(work.slack_bound(shaft), f(bound))
                bounds += bound > 0
        self.assertGreater(bounds, 30)

    def test_looped_for_every_shaft(self):
        more = Work(SQUARE.wheels + [("e", "v", 10)], SQUARE.links, driver="x")
        for shaft in ("x", "y", "z", "w", "v"):
            self.assert_looped(more.slack_bound, shaft)
        self.assert_no_name("q", more.slack_bound, "q")
        self.assert_bad("shaft", more.slack_bound, 1)
        for shaft in ("x", "y", "z"):
            self.assert_looped(RING.slack_bound, shaft)

    def test_a_loop_among_loose_shafts(self):
        self.assertEqual([LOOSE_RING.slack_bound(shaft) for shaft in LOOSE_RING.shafts()],
                         [None, None, None, (0, 1), (0, 1)])

    def test_a_link_twice_is_a_loop(self):
        twice = Work(WHEELS[:2], [("mesh", "a", "b"), ("mesh", "a", "b")], driver="x")
        self.assertIsNone(twice.lock_loop())
        self.assertEqual(twice.shaft_rate("y"), (-1, 2))
        self.assert_looped(twice.slack_bound, "x")

    def test_plays_of_zero(self):
        work = Work(WHEELS, [("joint", "x", "y", (0, 1)), ("joint", "y", "z", (0, 1))], driver="x")
        self.assertEqual([work.slack_bound(shaft) for shaft in ("x", "y", "z", "w")], [(0, 1)] * 3 + [None])

    def test_long_plays(self):
        play = (10 ** 39 - 1, 10 ** 39)
        work = Work(WHEELS, [("joint", "x", "y", play), ("mesh", "c", "d")], driver="x")
        self.assertEqual(work.slack_bound("z"), f(num(play) / 3))


class StepFactorTest(SkyCase):
    def test_all_steps(self):
        for work in seeded_works(4, 60):
            for step, _, _, factor in legs(work):
                self.assertEqual(step_factor(work, step), f(factor))

    def test_errors(self):
        for number in (2, 3, 10 ** 39):
            for way in (1, -1):
                self.assert_mismatch(step_factor, WORK, (number, way))
        self.assert_mismatch(step_factor, Work(WHEELS, [], driver="x"), (0, 1))
        wrong = [(0, 0), (0, 2), (0, -2), (-1, 1), (True, 1), (0, True), (False, 1), [0, 1], (0,), (0, 1, 1), (1, 1, 2)]
        wrong += [None, 0, "01", (0, None), (None, 1), ("0", 1), (0, "1"), (0.0, 1), (0, 1.0)] + objects()
        for step in wrong + [value for value in odd_values() if value not in ((1, -1), (0, -1), (0, 1))]:
            self.assert_bad("step", step_factor, WORK, step)
        for work in NOT_WORKS:
            self.assert_bad("work", step_factor, work, None)
            self.assert_bad("work", is_path, work, None, None)
            self.assert_bad("work", is_lock_loop, work, None)


class PathJudgeTest(SkyCase):
    def judge(self, path):
        return is_path(WORK, "z", path)

    def test_one_thing_changed(self):
        right = [(0, 1), (1, -1)]
        self.assert_true(self.judge(right))
        wrong = [[(0, 1), (1, 1)], [(0, -1), (1, -1)], right[:1], right[1:], right[::-1], [], right + [(1, 1)]]
        wrong += [[(0, 1), (0, -1), (0, 1), (1, -1)], right + [(1, 1), (1, -1)], right * 2]
        wrong += [[(0, 1), (-1, -1)], [(-2, 1), (1, -1)], [(False, 1), (1, -1)], [(0, True), (1, -1)]]
        wrong += [[(0, 1), (True, -1)], [(0, 1), (1, -1, 1)], [(0, 1), (1,)], [[0, 1], [1, -1]], tuple(right)]
        wrong += [[(0, 1), (2, -1)], [(0, 1), (10 ** 39, -1)], [(0, 1), None], [(0, 1), ("1", -1)], [(0, 1), (1, -1.0)]]
        for path in wrong:
            self.assert_false(self.judge(path))

    def test_the_driver(self):
        self.assert_true(is_path(WORK, "x", []))
        self.assert_false(is_path(WORK, "x", [(0, 1), (0, -1)]))
        self.assert_false(is_path(WORK, "x", ()))
        self.assert_false(is_path(SQUARE, "x", [(0, 1), (1, 1), (2, 1), (3, 1)]))
        self.assert_false(is_path(SQUARE, "x", None))

    def test_several_paths(self):
        self.assert_true(is_path(SQUARE, "z", [(0, 1), (1, 1)]))
        self.assert_true(is_path(SQUARE, "z", [(3, -1), (2, -1)]))
        self.assert_false(is_path(SQUARE, "z", [(0, 1), (1, 1), (2, 1), (3, 1), (0, 1), (1, 1)]))

    def test_loose_shafts(self):
        self.assert_false(is_path(LOOSE_RING, "x", []))
        self.assert_false(is_path(LOOSE_RING, "y", [(0, 1)]))

    def test_seeded(self):
        source = random.Random(5)
        right = 0
        for work in seeded_works(5, 120):
            steps = [(number, way) for number in range(-1, len(work.links) + 1) for way in (1, -1)]
            for shaft in work.shafts():
                expected = [path for path, _ in all_paths(work, shaft)]
                tried = expected + [source.choices(steps, k=source.randint(0, 3)) for _ in range(6)]
                for path in tried:
                    answer = self.assert_unchanged([path], is_path, work, shaft, path)
                    self.assertIs(answer, path in expected)
                    right += answer
        self.assertGreater(right, 200)

    def test_values_of_every_kind(self):
        self.assert_judges_all(self.judge)


class LoopJudgeTest(SkyCase):
    def judge(self, loop):
        return is_lock_loop(RING, loop)

    def test_one_thing_changed(self):
        right = [(0, 1), (1, 1), (2, 1)]
        self.assert_true(self.judge(right))
        self.assert_true(self.judge(right[1:] + right[:1]))
        self.assert_true(self.judge([(2, -1), (1, -1), (0, -1)]))
        self.assert_true(self.judge(right * 3))
        wrong = [[], right[:2], right[1:], [(0, 1), (1, -1), (2, 1)], [(0, -1), (1, 1), (2, 1)], right * 2]
        wrong += [[(0, 1), (0, -1)], right + [(0, 1)], tuple(right), [[0, 1], [1, 1], [2, 1]], [(0, 1), (1, 1), None]]
        wrong += [[(False, 1), (1, 1), (2, 1)], [(0, 1), (True, 1), (2, 1)], [(0, 1), (1, True), (2, 1)]]
        wrong += [[(0, 1), (1, 1), (-1, 1)], [(-3, 1), (1, 1), (2, 1)], [(0, 1), (1, 1), (3, 1)], [(0, 1, 0)] * 3]
        wrong += [[None] + right[1:], [(3, 1)] + right[1:], [[0, 1]] + right[1:], [(0,)] + right[1:], [None]]
        for loop in wrong:
            self.assert_false(self.judge(loop))

    def test_lengths(self):
        right = [(0, 1), (1, 1), (2, 1)]
        # The back and forth between two shafts adds two steps and no factor.
        self.assert_true(self.judge(right * 7 + [(0, 1), (0, -1)]))
        self.assert_false(self.judge(right * 7 + [(0, 1), (0, -1)] * 2))
        self.assert_false(self.judge(right * 9))
        # A loop of 24 steps, and one of 25.
        wheels = [("a", "x", 10), ("b", "y", 20), ("c", "y", 30)]
        work = Work(wheels, [("mesh", "a", "b"), ("mesh", "a", "c"), ("joint", "x", "y", (0, 1))], driver="x")
        self.assert_true(is_lock_loop(work, [(0, 1), (1, -1)]))
        self.assert_true(is_lock_loop(work, [(0, 1), (1, -1)] * 12))
        self.assert_false(is_lock_loop(work, [(0, 1), (1, -1)] * 13))
        self.assert_true(is_lock_loop(RING, right + [(0, 1), (0, -1)] * 10))
        self.assertEqual(len(right + [(0, 1), (0, -1)] * 11), 25)
        self.assert_false(is_lock_loop(RING, right + [(0, 1), (0, -1)] * 11))

    def test_a_loop_of_24_steps(self):
        wheels = [("a", "x", 10), ("b", "y", 20), ("c", "y", 30)]
        work = Work(wheels, [("mesh", "a", "b"), ("mesh", "a", "c")], driver="y")
        loop = [(0, -1), (1, 1)] + [(0, -1), (0, 1)] * 11
        self.assertEqual(len(loop), 24)
        self.assert_true(is_lock_loop(work, loop))
        self.assert_false(is_lock_loop(work, loop + [(0, -1), (0, 1)]))

    def test_it_may_begin_away_from_the_driver(self):
        wheels = RING.wheels + [("d", "w", 5), ("e", "v", 5)]
        work = Work(wheels, RING.links + [("mesh", "d", "a")], driver="w")
        self.assert_true(is_lock_loop(work, [(1, 1), (2, 1), (0, 1)]))
        self.assert_true(is_lock_loop(work, [(3, 1), (0, 1), (1, 1), (2, 1), (3, -1)]))
        away = Work(wheels, RING.links + [("mesh", "d", "a")], driver="v")
        self.assert_false(is_lock_loop(away, [(1, 1), (2, 1), (0, 1)]))

    def test_a_product_of_one(self):
        self.assert_false(is_lock_loop(SQUARE, [(0, 1), (1, 1), (2, 1), (3, 1)]))
        self.assert_false(is_lock_loop(WORK, [(0, 1), (0, -1)]))

    def test_seeded(self):
        source = random.Random(6)
        right = 0
        for work in seeded_works(6, 200):
            rows = legs(work)
            for _ in range(12):
                loop = self.wander(work, rows, source)
                answer = is_lock_loop(work, loop)
                self.assertIs(answer, slow_is_loop(work, loop))
                right += answer
        self.assertGreater(right, 60)

    def wander(self, work, rows, source):
        """Return steps that mostly follow one another, mostly until they come back."""
        at = first = source.choice(work.shafts())
        steps = []
        for _ in range(source.choice((2, 3, 4, 26))):
            ahead = [row for row in rows if row[1] == at] if source.random() < 0.97 else rows
            if not ahead:
                break
            step, _, at, _ = source.choice(ahead)
            steps.append(step)
            if at == first and source.random() < 0.7:
                break
        return steps

    def test_values_of_every_kind(self):
        self.assert_judges_all(self.judge)
        self.assert_judges_all(lambda value: is_lock_loop(WORK, value))
