"""Tests of finding what is bad [4] [6] [65] [66] [70] [72] [74] [76]."""

import random

from tests.helpers import SkyCase, f, not_fractions, objects, objects_but
from tests.test_shafts import LOOSE_RING, NOT_WORKS, RING, SQUARE, chain, seeded_works
from tests.test_skies import NOT_NAMES
from tests.test_workshop import BUILD, DEEDS, NOT_NUMBERS, NOT_TEETH, Model
from wheelsky.errors import Looped
from wheelsky.finding import dial_sets, find_bad
from wheelsky.looks import fewest_looks, look_classes, look_plan
from wheelsky.shafts import Work
from wheelsky.workshop import Workshop, built, replay

LONG = 10 ** 39
# A chain of five shafts: s0 drives s1 .. s4, each by one mesh.
WORK = Work(chain(5), [("mesh", f"w{number}", f"w{number + 1}") for number in range(4)], driver="s0")
SUSPECTS = [("break", 0), ("break", 1), ("break", 2), ("break", 3)]
SHAFTS = ["s1", "s2", "s3", "s4"]
NOT_SHOPS = [None, True, 1, (), [], "shop", WORK] + objects_but(Workshop)
NOT_SUSPECTS = [None, True, {}, "break", (), tuple(SUSPECTS), [], SUSPECTS * 2 + [("break", 0)], ("break", 0), [None], [0],
                [["break", 0]], [("break",)], [("break", 0, 0)], [("break", 0), ("mend", 0)], [("recut", "w0")], [("recut",)],
                [("recut", "w0", 5, 5)], [("turn", "s0", (1, 1))], [("drop", 0)], [("wheel", "a", "x", 10)],
                [("mesh", "w0", "w1")], [("undo",)], [()], [("", 0)], [([], 0)], [(None, 0)]]
NOT_SUSPECTS += [[("break", number)] for number in NOT_NUMBERS] + [[("recut", "w0", teeth)] for teeth in NOT_TEETH]
NOT_SUSPECTS += [[("recut", name, 5)] for name in NOT_NAMES] + objects() + [[thing] for thing in objects()]
NOT_SHAFTS = [None, True, {}, "s0", ("s0",), ["s0"] * 9, [None], [["s0"]], [("s0",)]] + [["s0", name] for name in NOT_NAMES]
NOT_SHAFTS += objects() + [[thing] for thing in objects()]


def slow_sets(work, suspects, shafts, by):
    """Return the dial sets from the meaning."""
    records = [("wheel",) + row for row in work.wheels] + work.links
    turn = ("turn", work.driver, by)
    sound = Model(records + [turn]).amounts
    bad = [Model(records + [suspect, turn]).amounts for suspect in suspects]
    return [tuple(number for number, row in enumerate(bad) if row[shaft] != sound[shaft]) for shaft in shafts]


def seeded_cases(seed, many):
    """Return tuples (work, suspects, shafts, by) for which no error is due."""
    source = random.Random(seed)
    cases = []
    for work in seeded_works(seed, many * 6):
        try:
            built(work)
        except Looped:
            continue
        meshes = [number for number, link in enumerate(work.links) if link[0] == "mesh"]
        suspects = []
        for _ in range(source.randint(1, 8)):
            if meshes and source.random() < 0.6:
                suspects.append(("break", source.choice(meshes)))
            else:
                wheel = source.choice(work.wheels)
                suspects.append(("recut", wheel[0], source.choice((wheel[2], 3, 7))))
        shafts = [source.choice(work.shafts()) for _ in range(source.randint(0, 8))]
        cases.append((work, suspects, shafts, f(source.randint(-4, 4), source.randint(1, 3))))
    return cases


class FindingCase(SkyCase):
    def seen(self, shop):
        return (shop.records(), shop.state(), shop.looks)

    def each(self):
        """Return calls of both functions with a work, suspects and shafts."""
        def find(work, suspects, shafts, *shop, by=(1, 1)):
            return find_bad(work, suspects, shafts, *(shop or [built(WORK)]), by=by)
        return [dial_sets, find]


class DialSetsTest(FindingCase):
    def test_plain(self):
        self.assertEqual(dial_sets(WORK, SUSPECTS, SHAFTS), [(0,), (0, 1), (0, 1, 2), (0, 1, 2, 3)])
        self.assertEqual(dial_sets(WORK, SUSPECTS, ["s4", "s1", "s0"]), [(0, 1, 2, 3), (0,), ()])
        self.assertEqual(dial_sets(WORK, SUSPECTS, []), [])
        self.assertEqual(dial_sets(WORK, SUSPECTS[::-1], ["s2"]), [(2, 3)])

    def test_recut(self):
        suspects = [("recut", "w1", 99), ("recut", "w0", 99), ("recut", "w4", 1), ("recut", "w1", 11)]
        # A wheel between two meshes turns both ways: it only passes the movement on.
        self.assertEqual(dial_sets(WORK, suspects, SHAFTS), [(0, 1), (1,), (1,), (1, 2)])

    def test_a_suspect_that_changes_nothing(self):
        self.assertEqual(dial_sets(WORK, [("recut", "w1", 11)], SHAFTS), [(), (), (), ()])
        self.assertEqual(dial_sets(WORK, [("recut", "w1", 11), ("break", 3)], SHAFTS), [(), (), (), (1,)])

    def test_more_than_once(self):
        self.assertEqual(dial_sets(WORK, [("break", 2)] * 8, ["s3"] * 8), [tuple(range(8))] * 8)
        self.assertEqual(dial_sets(WORK, [("break", 2), ("break", 0), ("break", 2)], ["s3", "s1", "s3"]),
                         [(0, 1, 2), (1,), (0, 1, 2)])

    def test_by(self):
        for by in ((1, 1), (-1, 3), (LONG, 1), (-1, LONG)):
            self.assertEqual(dial_sets(WORK, SUSPECTS, SHAFTS, by=by), [(0,), (0, 1), (0, 1, 2), (0, 1, 2, 3)])
        self.assertEqual(dial_sets(WORK, SUSPECTS, SHAFTS, by=(0, 1)), [(), (), (), ()])

    def test_play_may_hide_what_is_bad(self):
        work = Work(chain(3), [("mesh", "w0", "w1"), ("joint", "s1", "s2", (2, 1))], driver="s0")
        self.assertEqual(dial_sets(work, [("break", 0)], ["s1", "s2"], by=(-1, 1)), [(0,), ()])
        self.assertEqual(dial_sets(work, [("break", 0)], ["s1", "s2"], by=(1, 1)), [(0,), (0,)])

    def test_by_is_one_turn_if_it_is_left_out(self):
        for play, rows in (((3, 4), [(0,)]), ((1, 1), [()]), ((3, 2), [()])):
            work = Work(chain(3), [("joint", "s0", "s1", play), ("mesh", "w1", "w2")], driver="s0")
            self.assertEqual(dial_sets(work, [("break", 1)], ["s2"]), rows)
            self.assertEqual(dial_sets(work, [("break", 1)], ["s2"], by=(2, 1)), [(0,)])
            self.assertEqual(dial_sets(work, [("break", 1)], ["s2"], by=(1, 2)), [()])

    def test_a_driver_in_the_middle(self):
        work = Work(WORK.wheels, WORK.links, driver="s2")
        self.assertEqual(dial_sets(work, SUSPECTS, ["s0", "s1", "s2", "s3"]), [(0, 1), (1,), (), (2,)])

    def test_seeded(self):
        wrong = 0
        for work, suspects, shafts, by in seeded_cases(1, 60):
            rows = self.assert_unchanged([suspects, shafts], dial_sets, work, suspects, shafts, by=by)
            self.assertEqual(rows, slow_sets(work, suspects, shafts, by))
            self.assertEqual(type(rows), list)
            wrong += sum(len(row) for row in rows)
        self.assertGreater(wrong, 100)

    def test_lists_are_new(self):
        dial_sets(WORK, SUSPECTS, SHAFTS).clear()
        self.assertEqual(len(dial_sets(WORK, SUSPECTS, SHAFTS)), 4)


class ErrorsTest(FindingCase):
    """The errors of both functions."""

    def test_forms(self):
        for call in self.each():
            for work in NOT_WORKS:
                self.assert_bad("work", call, work, None, None, by=None)
            for suspects in NOT_SUSPECTS:
                self.assert_bad("suspects", call, RING, suspects, None, by=None)
            for shafts in NOT_SHAFTS:
                self.assert_bad("shafts", call, RING, SUSPECTS, shafts, by=None)
            for by in not_fractions():
                self.assert_bad("by", call, RING, SUSPECTS, ["q"], by=by)
        for shop in NOT_SHOPS:
            self.assert_bad("shop", find_bad, RING, SUSPECTS, ["q"], shop, by=None)

    def test_by_is_passed_by_name(self):
        with self.assertRaises(TypeError):
            dial_sets(WORK, SUSPECTS, SHAFTS, (1, 1))
        with self.assertRaises(TypeError):
            find_bad(WORK, SUSPECTS, SHAFTS)

    def test_the_order(self):
        bad = [("break", 0), ("break", 9), ("recut", "q", 5)]
        for call in self.each():
            # Unknown shafts, then loops, then each suspect in order.
            self.assert_no_name("q", call, RING, bad, ["x", "q", "r"])
            self.assert_no_name("w0", call, WORK, bad, ["w0"])
            for work in (RING, SQUARE):
                self.assert_looped(call, work, bad, ["x"])
            self.assert_looped(call, LOOSE_RING, bad, [])
            self.assert_mismatch(call, WORK, bad, SHAFTS)
            self.assert_no_name("q", call, WORK, bad[::-1], SHAFTS)
            self.assert_mismatch(call, WORK, [("break", LONG)], [])
            self.assert_no_name("s0", call, WORK, [("recut", "s0", 5)], [])
        joint = Work(chain(2), [("joint", "s0", "s1", (0, 1))], driver="s0")
        for call in self.each():
            self.assert_mismatch(call, joint, [("break", 0)], ["s1"])

    def test_errors_of_the_shop(self):
        other = replay(BUILD)
        full = built(WORK)
        for _ in range(60 - len(full.records())):
            full.turn("s0", (1, 1))
        full_elsewhere = replay(BUILD + [("turn", "x", (1, 1))] * 55)
        without_driver = replay([("wheel", "a", "s1", 10)] + [("wheel", "b", "s2", 10)])
        for shop, check in ((other, (self.assert_no_name, "s1")), (full, (self.assert_many, 60)),
                            (full_elsewhere, (self.assert_no_name, "s1")), (Workshop(), (self.assert_no_name, "s1"))):
            before = self.seen(shop)
            check[0](check[1], find_bad, WORK, SUSPECTS, SHAFTS, shop)
            self.assertEqual(self.seen(shop), before)
        before = self.seen(without_driver)
        self.assert_no_name("s0", find_bad, WORK, SUSPECTS, ["s1", "s2"], without_driver)
        self.assert_no_name("s0", find_bad, WORK, SUSPECTS, [], Workshop())
        # Also a shaft at which the plan does not look.
        self.assert_no_name("s3", find_bad, WORK, [("break", 0)], ["s1", "s2", "s3", "s4"], without_driver)
        self.assert_many(60, find_bad, WORK, SUSPECTS, [], full_elsewhere)
        self.assertEqual(self.seen(without_driver), before)

    def test_errors_of_the_work_go_first(self):
        shop = Workshop()
        self.assert_no_name("q", find_bad, WORK, SUSPECTS, ["s1", "q"], shop)
        self.assert_looped(find_bad, RING, SUSPECTS, ["x"], shop)
        self.assert_mismatch(find_bad, WORK, [("break", 4)], ["s1"], shop)
        self.assertEqual(self.seen(shop), ([], ([], [], []), 0))

    def test_an_error_leaves_redo(self):
        shop = built(WORK)
        shop.undo()
        self.assert_mismatch(find_bad, WORK, [("break", 4)], ["s1"], shop)
        self.assertEqual(shop.redo(), WORK.links[-1])


class FindBadTest(FindingCase):
    def check(self, work, suspects, shafts, guilty, by):
        """Check what is found in a shop with the deed of one suspect."""
        shop = built(work)
        DEEDS[suspects[guilty][0]][0](shop, *suspects[guilty][1:])
        shop.look(work.driver)
        records = shop.records()
        sets = dial_sets(work, suspects, shafts, by=by)
        answer = self.assert_unchanged([suspects, shafts], find_bad, work, suspects, shafts, shop, by=by)
        group, looks = answer
        classes = [row for row in look_classes(len(suspects), sets) if guilty in row]
        self.assertEqual([group], classes)
        self.assertEqual((type(answer), type(group), type(looks)), (tuple, tuple, int))
        self.assertLessEqual(looks, fewest_looks(len(suspects), sets))
        self.assertEqual(shop.records(), records + [("turn", work.driver, by)])
        self.assertEqual(shop.looks, looks + 1)
        self.assertEqual(shop.state(), Model(shop.records()).state())
        return looks

    def test_plain(self):
        looks = [self.check(WORK, SUSPECTS, SHAFTS, guilty, (1, 1)) for guilty in range(4)]
        self.assertEqual(looks, [2, 2, 2, 2])

    def test_by_is_left_out(self):
        shop = built(WORK)
        shop.break_mesh(1)
        self.assertEqual(find_bad(WORK, SUSPECTS, SHAFTS, shop), ((1,), 2))
        self.assertEqual(shop.records()[-1], ("turn", "s0", (1, 1)))

    def test_seeded(self):
        looked = 0
        for work, suspects, shafts, by in seeded_cases(2, 60):
            for guilty in range(len(suspects)):
                looked += self.check(work, suspects, shafts, guilty, by)
        self.assertGreater(looked, 100)

    def test_blamed_at_once(self):
        for suspects, shafts, by in (([("break", 0)], SHAFTS, (1, 1)), (SUSPECTS, [], (1, 1)), (SUSPECTS, SHAFTS, (0, 1)),
                                     ([("break", 2)] * 8, SHAFTS, (-5, 2)), (SUSPECTS, ["s0"], (1, 1))):
            shop = built(WORK)
            self.assertEqual(find_bad(WORK, suspects, shafts, shop, by=by), (tuple(range(len(suspects))), 0))
            self.assertEqual(shop.records(), built(WORK).records() + [("turn", "s0", by)])
            self.assertEqual(shop.looks, 0)

    def test_the_driver_is_turned_once(self):
        shop = built(WORK)
        shop.break_mesh(2)
        find_bad(WORK, SUSPECTS, SHAFTS, shop, by=(-3, 7))
        self.assertEqual(shop.records()[-2:], [("break", 2), ("turn", "s0", (-3, 7))])
        self.assertEqual(shop.amount("s0"), (-3, 7))
        self.assertEqual(shop.undo(), ("turn", "s0", (-3, 7)))
        self.assertEqual(shop.looks, 2)

    def test_other_shops(self):
        """The answer depends on the plan: an amount that differs in any way counts as wrong."""
        shop = built(WORK)
        shop.turn("s0", (1, 1))
        plan = look_plan(4, dial_sets(WORK, SUSPECTS, SHAFTS))
        while plan[0] == "look":
            plan = plan[2]
        self.assertEqual(find_bad(WORK, SUSPECTS, SHAFTS, shop)[0], plan[1])
        shop = built(WORK)
        plan = look_plan(4, dial_sets(WORK, SUSPECTS, SHAFTS))
        while plan[0] == "look":
            plan = plan[3]
        self.assertEqual(find_bad(WORK, SUSPECTS, SHAFTS, shop)[0], plan[1])

    def test_equal_shops_equal_answers(self):
        for number in range(4):
            answers = []
            for _ in range(2):
                shop = built(WORK)
                shop.break_mesh(number)
                answers.append((find_bad(WORK, SUSPECTS, SHAFTS, shop), self.seen(shop)))
            self.assertEqual(answers[0], answers[1])

    def test_the_largest(self):
        work = Work(chain(12), [("mesh", f"w{k}", f"w{k + 1}") for k in range(11)], driver="s0")
        suspects = [("break", number) for number in range(8)]
        shafts = [f"s{number}" for number in range(1, 9)]
        looks = [self.check(work, suspects, shafts, guilty, (LONG, 7)) for guilty in range(8)]
        self.assertEqual(looks, [3] * 8)
