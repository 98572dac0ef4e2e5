"""Tests of looks and their certificates [4] [6] [7] [8] [65] [66] [67]."""

import itertools
import random

from tests.helpers import SkyCase, not_integers, objects, odd_values
from wheelsky.looks import (
    fewest_looks, is_look_plan, is_needs_paper, look_classes, look_plan, needs_paper,
)

LONG = 10 ** 39
DIALS = [(0, 1, 2), (1, 2), (2,)]
# Three looks part eight suspects.
BITS = [tuple(k for k in range(8) if k >> bit & 1) for bit in range(3)]
SINGLES = [(k,) for k in range(8)]
NOT_SUSPECTS = not_integers() + [0, 9, -1, LONG]
NOT_LOOKS = not_integers() + [-1, 9, LONG]
NOT_DIALS = [None, True, 1, "0", {}, (), ((0,),), tuple(DIALS), [None], [0], ["0"], [[0]], [{}], [{0: 1}], [()] * 9]
NOT_DIALS += [[(1, 0)], [(0, 0)], [(0, 1, 1)], [(8,)], [(-1,)], [(True,)], [(0, True)], [(False,)], [("0",)], [(0.0,)],
              [(None,)], [((0,),)], [(LONG,)], [(0, 1, 2, 3, 4, 5, 6, 7, 8)], [(0,), [1]], [tuple(range(8)) + (7,)]]
NOT_DIALS += objects() + [[thing] for thing in objects()] + [[(0, thing)] for thing in objects()]


def parts(group, dial):
    """Return those of a group in the tuple of a dial, and the others."""
    return tuple(k for k in group if k in dial), tuple(k for k in group if k not in dial)


def parting(group, dials):
    """Return the numbers of the dials that part a group."""
    return [number for number, dial in enumerate(dials) if all(parts(group, dial))]


def slow_depth(group, dials):
    """Return the least depth of a look plan for a group, from the meaning."""
    depths = [1 + max(slow_depth(part, dials) for part in parts(group, dials[number]))
              for number in parting(group, dials)]
    return min(depths, default=0)


def depth_of(plan):
    """Return the depth of a look plan."""
    return 0 if plan[0] == "blame" else 1 + max(depth_of(plan[2]), depth_of(plan[3]))


def slow_is_plan(group, dials, plan):
    """Tell whether a tuple of the right build is a look plan for a group."""
    if plan[0] == "blame":
        return plan[1] == group and not parting(group, dials)
    wrong, right = parts(group, dials[plan[1]])
    return bool(wrong and right) and slow_is_plan(wrong, dials, plan[2]) and slow_is_plan(right, dials, plan[3])


def slow_is_paper(suspects, dials, paper, looks):
    """Tell from the document whether rows of the right form are a needs certificate."""
    if not 1 <= len(paper) <= 300 or paper[-1] != (tuple(range(suspects)), looks):
        return False
    for at, (group, need) in enumerate(paper):
        if not group or list(group) != sorted(set(group)) or not set(group) <= set(range(suspects)) or need < 0:
            return False
        if need == 0:
            continue
        numbers = parting(group, dials)
        if not numbers:
            return False
        for number in numbers:
            earlier = [row for row in paper[:at] if row[0] in parts(group, dials[number])]
            if need > 1 and not any(row[1] >= need - 1 for row in earlier):
                return False
    return True


def seeded_questions(seed, many, most=8):
    """Return pairs (suspects, dials)."""
    source = random.Random(seed)
    found = [(1, []), (1, [(), (0,)]), (8, []), (8, BITS), (8, SINGLES), (8, [tuple(range(8))] * 8), (4, [(0,), (1,)])]
    for _ in range(many):
        suspects = source.randint(1, most)
        chance = source.choice((0.2, 0.5, 0.8))
        found.append((suspects, [tuple(k for k in range(suspects) if source.random() < chance)
                                 for _ in range(source.randint(0, 8))]))
    return found


class ClassesTest(SkyCase):
    def test_plain(self):
        self.assertEqual(look_classes(4, DIALS), [(0,), (1,), (2,), (3,)])
        self.assertEqual(look_classes(4, [(0,), (1,)]), [(0,), (1,), (2, 3)])
        self.assertEqual(look_classes(1, []), [(0,)])
        self.assertEqual(look_classes(8, []), [tuple(range(8))])
        self.assertEqual(look_classes(8, [()] * 8), [tuple(range(8))])
        self.assertEqual(look_classes(8, [tuple(range(8))] * 8), [tuple(range(8))])
        self.assertEqual(look_classes(8, BITS), SINGLES)
        self.assertEqual(look_classes(5, [(1, 3), (1, 3)]), [(0, 2, 4), (1, 3)])
        self.assertEqual(look_classes(6, [(1, 2, 5), (2, 5)]), [(0, 3, 4), (1,), (2, 5)])

    def test_seeded(self):
        for suspects, dials in seeded_questions(1, 200):
            rows = self.assert_unchanged([dials], look_classes, suspects, dials)
            self.assertEqual(type(rows), list)
            self.assertEqual(sorted(itertools.chain(*rows)), list(range(suspects)))
            self.assertEqual([row[0] for row in rows], sorted(row[0] for row in rows))
            for row in rows:
                self.assertEqual((type(row), list(row)), (tuple, sorted(row)))
                self.assertEqual(parting(row, dials), [])
            for left, right in itertools.combinations(rows, 2):
                self.assertNotEqual(parting((left[0], right[0]), dials), [])

    def test_lists_are_new(self):
        look_classes(4, DIALS).clear()
        self.assertEqual(len(look_classes(4, DIALS)), 4)


class FewestTest(SkyCase):
    def test_plain(self):
        self.assertEqual((fewest_looks(4, DIALS), fewest_looks(4, [(0,), (1,)])), (2, 2))
        self.assertEqual(fewest_looks(1, []), 0)
        self.assertEqual(fewest_looks(1, [(0,)] * 8), 0)
        self.assertEqual(fewest_looks(8, []), 0)
        self.assertEqual(fewest_looks(8, BITS), 3)
        self.assertEqual(fewest_looks(8, SINGLES), 7)
        self.assertEqual(fewest_looks(2, [(), (0, 1), (1,)]), 1)
        # The dial that parts evenly may be the worse one to begin with.
        self.assertEqual(fewest_looks(6, [(0, 1, 2), (0,), (1,), (3,), (4,)]), 3)

    def test_seeded(self):
        for suspects, dials in seeded_questions(2, 120, 6):
            self.assertEqual(self.assert_unchanged([dials], fewest_looks, suspects, dials),
                             slow_depth(tuple(range(suspects)), dials))

    def test_errors(self):
        judges = [lambda suspects, dials: is_look_plan(suspects, dials, None, looks=0),
                  lambda suspects, dials: is_needs_paper(suspects, dials, None, looks=0)]
        for call in [look_classes, fewest_looks, look_plan, needs_paper] + judges:
            for suspects in NOT_SUSPECTS:
                self.assert_bad("suspects", call, suspects, None)
            for dials in NOT_DIALS:
                self.assert_bad("dials", call, 1, dials)
            for suspects in range(1, 8):
                self.assert_mismatch(call, suspects, [(), (suspects,)])
                self.assert_mismatch(call, suspects, [(0, 7)])
                call(suspects, [(suspects - 1,)])
            call(8, [(7,)])
            call(1, [()] * 8)


class PlanTest(SkyCase):
    def check(self, suspects, dials):
        plan = self.assert_unchanged([dials], look_plan, suspects, dials)
        looks = fewest_looks(suspects, dials)
        self.assertEqual(depth_of(plan), looks)
        self.assertTrue(slow_is_plan(tuple(range(suspects)), dials, plan))
        for most in range(9):
            self.assertIs(is_look_plan(suspects, dials, plan, looks=most), most >= looks)
        self.assertEqual(look_plan(suspects, list(dials)), plan)
        return plan

    def test_plain(self):
        self.assertEqual(self.check(1, []), ("blame", (0,)))
        self.assertEqual(self.check(8, [(), tuple(range(8))]), ("blame", tuple(range(8))))
        self.assertEqual(self.check(2, [(0, 1), (1,)]), ("look", 1, ("blame", (1,)), ("blame", (0,))))
        self.check(8, BITS)
        self.check(8, SINGLES)
        self.check(8, SINGLES[::-1])
        self.check(4, DIALS)

    def test_dials_twice(self):
        self.check(3, [(0,), (0,), (0, 1), (0, 1)])

    def test_seeded(self):
        for suspects, dials in seeded_questions(3, 150):
            self.check(suspects, dials)


class IsPlanTest(SkyCase):
    """Dials (0, 1, 2), (1, 2), (2,) over four suspects."""

    RIGHT = ("look", 1, ("look", 2, ("blame", (2,)), ("blame", (1,))), ("look", 0, ("blame", (0,)), ("blame", (3,))))

    def judge(self, plan, looks=2):
        return is_look_plan(4, list(DIALS), plan, looks=looks)

    def test_right(self):
        self.assert_true(self.judge(self.RIGHT))
        longer = ("look", 2, ("blame", (2,)), ("look", 1, ("blame", (1,)), ("look", 0, ("blame", (0,)), ("blame", (3,)))))
        for looks in range(9):
            self.assertIs(self.judge(self.RIGHT, looks), looks >= 2)
            self.assertIs(self.judge(longer, looks), looks >= 3)

    def test_one_thing_changed(self):
        _, _, wrong, right = self.RIGHT
        changed = [("look", 1, right, wrong), ("look", 0, wrong, right), ("look", 2, wrong, right), ("look", 3, wrong, right),
                   ("look", -2, wrong, right), ("look", True, wrong, right), ("look", 1.0, wrong, right),
                   ("look", LONG, wrong, right), ("look", None, wrong, right), ("look", (1,), wrong, right),
                   ("look", 1, wrong), ("look", 1, wrong, right, None), ["look", 1, wrong, right],
                   ("blame", 1, wrong, right), ("Look", 1, wrong, right), (None, 1, wrong, right), (1, 1, wrong, right),
                   ("look", 1, list(wrong), right), ("look", 1, wrong, list(right)), ("look", 1, wrong, wrong),
                   ("look", 1, right, right), ("look", 1, wrong, None), ("look", 1, (), right),
                   ("blame", (0, 1, 2, 3)), ("blame", (1, 2)), (self.RIGHT,), ("look", 1, self.RIGHT, self.RIGHT)]
        for plan in changed:
            for looks in (2, 3, 8):
                self.assert_false(self.judge(plan, looks))

    def test_groups(self):
        self.assert_true(is_look_plan(3, [(0,)], ("look", 0, ("blame", (0,)), ("blame", (1, 2))), looks=1))
        for group in ((2, 1), (1,), (2,), (1, 2, 2), (0, 1, 2), (), [1, 2], (True, 2), (1, 2.0), ("1", "2"), (1, None),
                      (1, 2, 3), (-2, 2), ((1, 2),), None, 1, {1: 2}):
            self.assert_false(is_look_plan(3, [(0,)], ("look", 0, ("blame", (0,)), ("blame", group)), looks=1))
        for group in ((False,), [0], (0, 0), (1,), 0, None):
            self.assert_false(is_look_plan(3, [(0,)], ("look", 0, ("blame", group), ("blame", (1, 2))), looks=1))
            self.assert_false(is_look_plan(1, [], ("blame", group), looks=0))
        for plan in (("blame", (0,), 0), ("blame",), ["blame", (0,)], ((0,), "blame"), ("look", (0,))):
            self.assert_false(is_look_plan(1, [], plan, looks=8))
        self.assert_true(is_look_plan(1, [], ("blame", (0,)), looks=0))

    def test_a_dial_that_does_not_part(self):
        plan = ("look", 0, ("blame", (0, 1)), ("blame", ()))
        for dials in ([(0, 1)], [()], [(0, 1), (0, 1)]):
            self.assert_false(is_look_plan(2, dials, plan, looks=8))
            self.assert_false(is_look_plan(2, dials, ("look", 0, ("blame", ()), ("blame", (0, 1))), looks=8))

    def test_a_group_that_is_still_parted(self):
        self.assert_false(is_look_plan(3, [(0,), (1,)], ("look", 0, ("blame", (0,)), ("blame", (1, 2))), looks=8))

    def test_numbers_of_dials(self):
        plan = ("look", 1, ("blame", (1,)), ("blame", (0,)))
        self.assert_true(is_look_plan(2, [(), (1,)], plan, looks=1))
        for number in (-1, 2, True, 8, -LONG):
            self.assert_false(is_look_plan(2, [(), (1,)], ("look", number) + plan[2:], looks=1))
        self.assert_false(is_look_plan(2, [(1,), ()], ("look", False) + plan[2:], looks=1))

    def test_deep_plans(self):
        plan = ("blame", (7,))
        for number in reversed(range(7)):
            plan = ("look", number, ("blame", (number,)), plan)
        for looks in range(9):
            self.assertIs(is_look_plan(8, SINGLES, plan, looks=looks), looks >= 7)
        for _ in range(12):
            plan = ("look", 0, ("blame", (0,)), plan)
        self.assert_false(is_look_plan(8, SINGLES, plan, looks=8))

    def test_values_of_every_kind(self):
        self.assert_judges_all(self.judge)
        self.assert_judges_all(lambda plan: is_look_plan(1, [], plan, looks=0))
        for value in odd_values():
            self.assert_false(self.judge(("look", 1, value, self.RIGHT[3])))
            self.assert_false(self.judge(("look", 1, self.RIGHT[2], value)))
            self.assert_false(self.judge(("look", value, self.RIGHT[3], self.RIGHT[2])))

    def test_errors_whatever_is_judged(self):
        for plan in (None, self.RIGHT):
            for looks in NOT_LOOKS:
                self.assert_bad("looks", is_look_plan, 1, [(1,)], plan, looks=looks)
            self.assert_bad("dials", is_look_plan, 4, None, plan, looks=9)
            self.assert_mismatch(is_look_plan, 3, [(3,)], plan, looks=2)


class NeedsPaperTest(SkyCase):
    def check(self, suspects, dials):
        paper = self.assert_unchanged([dials], needs_paper, suspects, dials)
        looks = fewest_looks(suspects, dials)
        self.assertTrue(slow_is_paper(suspects, dials, paper, looks))
        self.assertEqual((type(paper), {type(row) for row in paper}), (list, {tuple}))
        for need in range(9):
            self.assertIs(is_needs_paper(suspects, dials, paper, looks=need), need == looks)
        self.assertEqual(needs_paper(suspects, list(dials)), paper)

    def test_plain(self):
        self.assertEqual(needs_paper(1, []), [((0,), 0)])
        self.check(8, [])
        self.check(8, BITS)
        self.check(8, SINGLES)
        self.check(4, DIALS)
        self.assertLessEqual(len(needs_paper(8, SINGLES)), 300)

    def test_seeded(self):
        for suspects, dials in seeded_questions(4, 120):
            self.check(suspects, dials)

    def test_lists_are_new(self):
        needs_paper(4, DIALS).clear()
        self.check(4, DIALS)


class IsNeedsPaperTest(SkyCase):
    RIGHT = [((1, 2), 1), ((0, 2), 1), ((0, 1), 1), ((0, 1, 2), 2)]

    def judge(self, paper, looks=2):
        return is_needs_paper(3, SINGLES[:3], paper, looks=looks)

    def test_right(self):
        self.assert_true(self.judge(list(self.RIGHT)))
        for looks in (0, 1, 3, 8):
            self.assert_false(self.judge(list(self.RIGHT), looks))
        # A need may be less than the fewest looks; for 0 and 1 no earlier row is required.
        self.assert_true(self.judge([((0, 1, 2), 1)], 1))
        self.assert_true(self.judge([((0, 1, 2), 0)], 0))
        self.assert_false(self.judge([((0, 1, 2), 2)], 2))
        self.assert_true(self.judge([((2,), 0)] + self.RIGHT))
        self.assert_true(self.judge(self.RIGHT[:3] * 20 + self.RIGHT[3:]))
        # Rows of the whole group may stand earlier too.
        self.assert_true(self.judge(self.RIGHT + [((0, 1, 2), 0)], 0))
        self.assert_true(self.judge(self.RIGHT + self.RIGHT))

    def test_each_row_is_needed(self):
        for at in range(4):
            self.assert_false(self.judge(self.RIGHT[:at] + self.RIGHT[at + 1:]))
        for at in range(3):
            self.assert_false(self.judge(self.RIGHT[:at] + [(self.RIGHT[at][0], 0)] + self.RIGHT[at + 1:]))
        self.assert_false(self.judge(self.RIGHT[::-1]))
        # A row may not be borne out by itself or by a later one.
        self.assert_false(self.judge([((0, 1, 2), 2)] + self.RIGHT))

    def test_the_greatest_need_of_several_rows_counts(self):
        weak = [((1, 2), 0), ((0, 2), 0), ((0, 1), 0)]
        self.assert_true(self.judge(self.RIGHT[:3] + weak + self.RIGHT[3:]))
        self.assert_true(self.judge(weak + self.RIGHT))

    def test_either_part_is_enough(self):
        dials = [(0, 1)]
        self.assert_true(is_needs_paper(4, dials, [((0, 1, 2, 3), 1)], looks=1))
        self.assert_false(is_needs_paper(4, dials, [((0, 1), 1), ((0, 1, 2, 3), 2)], looks=2))
        dials = [(0, 1), (0, 2)]
        for group in ((0, 1), (2, 3)):
            rows = [(group, 1), ((0, 2), 1), ((0, 1, 2, 3), 2)]
            self.assert_true(is_needs_paper(4, dials, rows, looks=2))
            self.assert_false(is_needs_paper(4, dials, rows[:1] + rows[2:], looks=2))

    def test_an_unused_row_that_is_wrong(self):
        for row in (((0,), 1), ((0, 1), 2), ((0, 1, 2), 3), ((0, 1, 2), 8), ((1,), LONG)):
            for at in range(4):
                self.assert_false(self.judge(self.RIGHT[:at] + [row] + self.RIGHT[at:]))
        self.assert_true(self.judge([((0,), 0)] + self.RIGHT))

    def test_wrong_rows(self):
        wrong = [((), 0), ((1, 0), 1), ((0, 0), 0), ((0, 3), 1), ((3,), 0), ((-1,), 0), ((-1, 1), 1), ((True,), 0),
                 ((False, 1), 1), ((0, True), 1), ((0, 1), True), ((0,), False), ((0, 1), -1), ((0, 1), 1.0), ((0, 1), None),
                 ((0, 1), "1"), ([0, 1], 1), [(0, 1), 1], ((0, 1),), ((0, 1), 1, 0), (1, (0, 1)), None, 1, (), [], {},
                 ("01", 1), ((0, 1.0), 1), ((0, (1,)), 1), (None, 0), ((LONG,), 0), {(0, 1): 1}] + objects()
        for row in wrong:
            for at in range(5):
                self.assert_false(self.judge(self.RIGHT[:at] + [row] + self.RIGHT[at:]))

    def test_the_last_row(self):
        self.assert_false(self.judge(self.RIGHT[:3], 1))
        self.assert_false(self.judge(self.RIGHT + [((0, 1), 1)]))
        self.assert_false(self.judge(self.RIGHT + [((0, 1), 1)], 1))
        self.assert_true(self.judge(self.RIGHT + [((0, 1, 2), 1)], 1))

    def test_lengths(self):
        self.assert_false(self.judge([], 0))
        self.assert_true(self.judge([((0, 1), 1)] * 296 + self.RIGHT))
        self.assert_false(self.judge([((0, 1), 1)] * 297 + self.RIGHT))
        self.assert_false(self.judge(tuple(self.RIGHT)))

    def test_seeded(self):
        source = random.Random(5)
        verdicts = {True: 0, False: 0}
        for suspects, dials in seeded_questions(6, 150, 5):
            paper = needs_paper(suspects, dials)
            for _ in range(6):
                rows = list(paper)
                for _ in range(source.randint(1, 2)):
                    at = source.randrange(len(rows))
                    group, need = rows[at]
                    rows[at] = source.choice([(group, max(0, need - 1)), (group, need + 1), rows[0], (group[1:] or group, need)])
                looks = source.choice((rows[-1][1], paper[-1][1], 1))
                if looks <= 8:
                    verdict = is_needs_paper(suspects, dials, rows, looks=looks)
                    self.assertIs(verdict, slow_is_paper(suspects, dials, rows, looks))
                    verdicts[verdict] += 1
                    if verdict:
                        self.assertLessEqual(looks, slow_depth(tuple(range(suspects)), dials))
        self.assertGreater(min(verdicts.values()), 50)

    def test_values_of_every_kind(self):
        self.assert_judges_all(self.judge)
        self.assert_judges_all(lambda paper: is_needs_paper(1, [], paper, looks=0))

    def test_the_judged_list_stays(self):
        rows = list(self.RIGHT)
        self.assert_true(self.assert_unchanged([rows], self.judge, rows))

    def test_errors_whatever_is_judged(self):
        for paper in (None, list(self.RIGHT)):
            for looks in NOT_LOOKS:
                self.assert_bad("looks", is_needs_paper, 1, [(1,)], paper, looks=looks)
            self.assert_bad("dials", is_needs_paper, 4, None, paper, looks=9)
            self.assert_mismatch(is_needs_paper, 3, [(3,)], paper, looks=2)
