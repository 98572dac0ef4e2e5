"""Tests of plans and of their text [2] [3] [4] [5] [6] [10] [33] [34] [35] [37] [58] [59] [64]."""

import random
from fractions import Fraction

from tests.helpers import SkyCase, f, not_fractions, num, objects, objects_but, odd_values
from tests.test_shafts import LOOSE_RING, NOT_WORKS, RING, SQUARE, seeded_works
from tests.test_skies import EIGHT, NAMES, NOT_NAMES
from tests.test_slots import NOT_PLACES, seeded_knots, slow_carried
from wheelsky.cycles import Cycle
from wheelsky.motions import Motion
from wheelsky.plans import Plan, fraction_word, plan_text
from wheelsky.shafts import Work, is_lock_loop
from wheelsky.skies import Sky
from wheelsky.slots import Slot, even_slot

LONG = 10 ** 39
SKY = Sky([("sun", Cycle((1, 365), (1, 4))), ("moon", Cycle((1, 27), (2, 3)))])
SLOTS = [("pin", Slot([((0, 1), (0, 1)), ((1, 2), (1, 4))])), ("flat", Slot([((0, 1), (1, 3))]))]
WORK = Work([("a", "x", 10), ("b", "y", 20), ("c", "z", 5)],
            [("mesh", "a", "b")], driver="x")
DIALS = [("m", "y", (1, 4), "pin", "moon"), ("s", "x", (0, 1), None, "sun"), ("n", "z", (1, 3), "flat", None),
         ("o", "z", (2, 3), None, None)]
PLAN = Plan(SKY, SLOTS, WORK, DIALS, pace=(-3, 2))
SIX_SLOTS = [(f"p{number}", Slot([((0, 1), f(number, 7))])) for number in range(6)]
SIX_DIALS = [(f"d{number}", "x", f(number, 7), None, None) for number in range(6)]
NOT_PLANS = [None, True, 1, "cycle", [], (), (SKY, SLOTS, WORK, DIALS)] + objects_but(Plan)


def seeded_plans(seed, many, top=40):
    """Return plans of every kind; some have a locked work."""
    source = random.Random(seed)
    plans = []
    knots = [Slot(rows) for rows in seeded_knots(seed, 40)]
    for work in seeded_works(seed, many):
        cycles = [(f"c{number}", Cycle(f(source.randint(-top, top), source.randint(1, top)),
                                       f(Fraction(source.randrange(top), top)))) for number in range(source.randint(0, 8))]
        slots = [(f"t{number}", source.choice(knots)) for number in range(source.randint(0, 6))]
        dials = []
        for number in range(source.randint(0, 6)):
            slot = source.choice([None] + [name for name, _ in slots])
            cycle = source.choice([None] + [name for name, _ in cycles])
            dials.append((f"w{number}", source.choice(work.shafts()), f(Fraction(source.randrange(top), top)), slot, cycle))
        pace = f(source.randint(-top, top), source.randint(1, top))
        plans.append(Plan(Sky(cycles), slots, work, dials, pace=pace))
    return plans


class PlanTest(SkyCase):
    def test_attributes(self):
        self.assertIs(PLAN.sky, SKY)
        self.assertIs(PLAN.work, WORK)
        self.assertEqual((PLAN.slots, PLAN.dials, PLAN.pace), (SLOTS, DIALS, (-3, 2)))
        self.assertIs(PLAN.slots[0][1], SLOTS[0][1])
        self.assertEqual(Plan(SKY, [], WORK, []).pace, (1, 1))
        for pace in ((0, 1), (-1, LONG), (LONG, 7)):
            self.assertEqual(Plan(SKY, [], WORK, [], pace=pace).pace, pace)

    def test_lists_are_new_and_stay(self):
        slots, dials = list(SLOTS), list(DIALS)
        plan = self.assert_unchanged([slots, dials], Plan, SKY, slots, WORK, dials)
        slots.clear()
        dials.clear()
        plan.slots.clear()
        plan.dials.clear()
        self.assertEqual((plan.slots, plan.dials), (SLOTS, DIALS))
        self.assertEqual((type(plan.slots), type(plan.dials)), (list, list))
        self.assertIsNot(plan.slots, plan.slots)
        self.assertIsNot(plan.dials, plan.dials)

    def test_sizes(self):
        plan = Plan(Sky(EIGHT), SIX_SLOTS, WORK, SIX_DIALS)
        self.assertEqual((plan.slots, plan.dials), (SIX_SLOTS, SIX_DIALS))
        plan = Plan(Sky([]), [], WORK, [])
        self.assertEqual((plan.slots, plan.dials, plan.sky.count()), ([], [], 0))
        self.assert_bad("slots", Plan, SKY, SIX_SLOTS + [("q", even_slot())], WORK, SIX_DIALS)
        self.assert_bad("dials", Plan, SKY, SIX_SLOTS, WORK, SIX_DIALS + [("q", "x", (0, 1), None, None)])

    def test_wrong_skies_and_works(self):
        for sky in [None, True, [], [("sun", Cycle((1, 2)))]] + objects_but(Sky):
            self.assert_bad("sky", Plan, sky, None, None, None, pace=None)
        for work in NOT_WORKS:
            self.assert_bad("work", Plan, SKY, SLOTS, work, None, pace=None)

    def test_wrong_slots(self):
        wrong = [None, True, {}, "pin", tuple(SLOTS), SLOTS[0], [even_slot()], ["pin"], [["pin", even_slot()]], [None]]
        wrong += [[("pin",)], [("pin", even_slot(), 1)], [("pin", None)], [("pin", SLOTS[0][1].knots)], [(even_slot(), "pin")]]
        wrong += [[SLOTS[0], (name, even_slot())] for name in NOT_NAMES] + [[("pin", thing)] for thing in objects_but(Slot)]
        for slots in wrong + objects():
            self.assert_bad("slots", Plan, SKY, slots, None, None, pace=None)

    def test_wrong_dials(self):
        good = ("m", "y", (1, 4), "pin", "moon")
        wrong = [None, True, {}, "m", tuple(DIALS), good, ["m"], [list(good)], [good[:4]], [good + (None,)], [None]]
        for at in range(5):
            for value in NOT_NAMES if at != 2 else NOT_PLACES:
                if at >= 3 and value is None:
                    continue
                wrong.append([DIALS[1], good[:at] + (value,) + good[at + 1:]])
        for dials in wrong + objects():
            self.assert_bad("dials", Plan, SKY, SLOTS, WORK, dials, pace=None)
        for pace in not_fractions():
            self.assert_bad("pace", Plan, SKY, SLOTS + SLOTS, WORK, DIALS[:3] + DIALS[:3], pace=pace)

    def test_names_of_all_lengths(self):
        for name in NAMES:
            work = Work([(name, name, 10)], [], driver=name)
            sky = Sky([(name, Cycle((1, 2)))])
            plan = Plan(sky, [(name, even_slot())], work, [(name, name, (0, 1), name, name)])
            self.assertEqual(plan.dials, [(name, name, (0, 1), name, name)])
            self.assertEqual(plan.pointer(name).terms, [((1, 1), Cycle((1, 1)), even_slot())])

    def test_taken(self):
        again = [("a", even_slot()), ("b", even_slot()), ("b", SLOTS[0][1]), ("a", even_slot())]
        twice = [("m", "x", (0, 1), None, None), ("n", "q", (0, 1), "q", "q"), ("n", "x", (0, 1), None, None),
                 ("m", "x", (0, 1), None, None)]
        self.assert_taken("b", Plan, SKY, again, WORK, twice)
        self.assert_taken("n", Plan, SKY, again[:2], WORK, twice)
        self.assert_taken("m", Plan, SKY, [], WORK, [twice[0], twice[3], twice[1]])

    def test_unknown_names_in_their_order(self):
        def plan_with(*dials):
            return Plan(SKY, SLOTS, WORK, list(dials))
        self.assert_no_name("q1", plan_with, ("m", "q1", (0, 1), "q2", "q3"))
        self.assert_no_name("q2", plan_with, ("m", "x", (0, 1), "q2", "q3"))
        self.assert_no_name("q3", plan_with, ("m", "x", (0, 1), "pin", "q3"))
        self.assert_no_name("q3", plan_with, ("m", "x", (0, 1), None, "q3"))
        self.assert_no_name("q1", plan_with, ("m", "q1", (0, 1), None, None))
        # Dial by dial, the first one wholly before the next one.
        self.assert_no_name("q3", plan_with, ("m", "x", (0, 1), None, "q3"), ("n", "q1", (0, 1), None, None))
        # The name of a thing of another kind is none.
        self.assert_no_name("a", plan_with, ("m", "a", (0, 1), None, None))
        self.assert_no_name("moon", plan_with, ("m", "x", (0, 1), "moon", None))
        self.assert_no_name("pin", plan_with, ("m", "x", (0, 1), None, "pin"))
        self.assert_no_name("m", plan_with, ("m", "x", (0, 1), None, None), ("n", "m", (0, 1), None, None))
        # The work may be locked all the same.
        Plan(SKY, SLOTS, RING, [("m", "x", (0, 1), None, None)])

    def test_names_are_checked_after_all_forms(self):
        self.assert_bad("pace", Plan, SKY, SLOTS + SLOTS, WORK, [("m", "q", (0, 1), None, None)], pace=1)

    def test_equality(self):
        same = Plan(Sky(list(SKY)), list(SLOTS), Work(WORK.wheels, WORK.links, driver="x"), list(DIALS), pace=(-3, 2))
        self.assert_true(same == PLAN)
        self.assert_false(same != PLAN)
        for other in (Plan(SKY, SLOTS, WORK, DIALS), Plan(SKY, SLOTS[::-1], WORK, DIALS, pace=(-3, 2)),
                      Plan(SKY, SLOTS, WORK, DIALS[::-1], pace=(-3, 2)), Plan(SKY, SLOTS, WORK, DIALS[:3], pace=(-3, 2)),
                      Plan(Sky(list(SKY)[::-1]), SLOTS, WORK, DIALS, pace=(-3, 2)),
                      Plan(SKY, SLOTS, Work(WORK.wheels, [], driver="x"), DIALS, pace=(-3, 2)),
                      Plan(SKY, [SLOTS[0], ("flat", even_slot())], WORK, DIALS, pace=(-3, 2))):
            self.assert_false(other == PLAN)
            self.assert_true(other != PLAN)
        for other in odd_values():
            if not isinstance(other, Plan):
                self.assert_false(PLAN == other)
                self.assert_true(PLAN != other)
                self.assert_false(other == PLAN)


class PointerTest(SkyCase):
    def test_plain(self):
        pointer = PLAN.pointer("m")
        self.assertIs(type(pointer), Motion)
        self.assertEqual(pointer.terms, [((1, 1), Cycle((3, 4), (1, 4)), SLOTS[0][1])])
        self.assertEqual(PLAN.pointer("s").terms, [((1, 1), Cycle((-3, 2), (0, 1)), even_slot())])
        # A loose shaft does not turn.
        self.assertEqual(PLAN.pointer("n").terms, [((1, 1), Cycle((0, 1), (1, 3)), SLOTS[1][1])])
        self.assertEqual(PLAN.pointer("o").terms, [((1, 1), Cycle((0, 1), (2, 3)), even_slot())])

    def test_paces(self):
        for pace in ((0, 1), (-1, 1), (1, LONG), (-LONG, 7)):
            plan = Plan(SKY, SLOTS, WORK, DIALS, pace=pace)
            self.assertEqual(plan.pointer("m").terms[0][1], Cycle(f(-num(pace) / 2), (1, 4)))
            self.assertEqual(plan.pointer("s").terms[0][1], Cycle(pace))
            self.assertEqual(plan.pointer("o").terms[0][1], Cycle((0, 1), (2, 3)))

    def test_seeded(self):
        linked = loose = 0
        for plan in seeded_plans(1, 150):
            if plan.work.lock_loop() is not None:
                continue
            slots = dict(plan.slots)
            for name, shaft, start, slot, _ in plan.dials:
                rate = plan.work.shaft_rate(shaft)
                linked, loose = linked + (rate is not None), loose + (rate is None)
                for moment in (Fraction(0), Fraction(-7, 3), Fraction(LONG, 11)):
                    turns = num(start) + (num(rate) if rate else 0) * num(plan.pace) * moment
                    if slot is not None:
                        turns = slow_carried(slots[slot].knots, turns)
                    self.assertEqual(plan.pointer(name).turns(f(moment)), f(turns))
                    self.assertEqual(plan.pointer(name).place(f(moment)), f(turns % 1))
        self.assertGreater(min(linked, loose), 30)

    def test_locked(self):
        plan = Plan(SKY, [], RING, [("m", "x", (0, 1), None, None), ("n", "z", (0, 1), None, "moon")])
        loops = [self.assert_locked(plan.pointer, name) for name in ("m", "n", "m")]
        for number, loop in enumerate(loops):
            self.assert_true(is_lock_loop(RING, loop))
            loop.clear()
            for other in loops[number + 1:]:
                self.assert_true(is_lock_loop(RING, other))
        self.assert_no_name("q", plan.pointer, "q")
        for name in NOT_NAMES:
            self.assert_bad("dial", plan.pointer, name)

    def test_works_with_loops_that_turn(self):
        plan = Plan(SKY, [], SQUARE, [("m", "z", (0, 1), None, None)])
        self.assertEqual(plan.pointer("m").terms[0][1], Cycle((5, 7)))
        plan = Plan(SKY, [], LOOSE_RING, [("m", "z", (1, 5), None, None), ("n", "v", (0, 1), None, None)])
        self.assertEqual(plan.pointer("m").terms[0][1], Cycle((0, 1), (1, 5)))
        self.assertEqual(plan.pointer("n").terms[0][1], Cycle((-1, 2)))

    def test_forms(self):
        for name in NOT_NAMES:
            self.assert_bad("dial", PLAN.pointer, name)
        for name in ("q", "x", "moon", "pin", "a"):
            self.assert_no_name(name, PLAN.pointer, name)

    def test_lists_are_new(self):
        PLAN.pointer("m").terms.clear()
        self.assertEqual(len(PLAN.pointer("m").terms), 1)


class FractionWordTest(SkyCase):
    def test_plain(self):
        for value, word in (((0, 1), "0"), ((5, 1), "5"), ((-5, 1), "-5"), ((1, 2), "1/2"), ((-3, 2), "-3/2"),
                            ((10, 7), "10/7"), ((LONG, 1), "1" + "0" * 39), ((-1, LONG), "-1/1" + "0" * 39)):
            self.assertEqual(fraction_word(value), word)
            self.assertIs(type(fraction_word(value)), str)

    def test_4000_digits(self):
        nines = "9" * 4000
        many = int(nines)
        self.assertEqual(fraction_word((many, 1)), nines)
        self.assertEqual(fraction_word((-many, many - 1)), f"-{nines}/{nines[:-1]}8")
        self.assertEqual(fraction_word((1, many)), f"1/{nines}")

    def test_forms(self):
        for value in not_fractions():
            self.assert_bad("value", fraction_word, value)


class PlanTextTest(SkyCase):
    def test_every_kind_of_line(self):
        work = Work([("a", "x", 10), ("b", "y", 20), ("c", "z", 5)],
                    [("joint", "y", "z", (1, 8)), ("mesh", "a", "b"), ("joint", "z", "y", (0, 1))], driver="y")
        plan = Plan(SKY, SLOTS, work, DIALS, pace=(-3, 2))
        self.assertEqual(plan_text(plan), "\n".join([
            "cycle sun 1/365 1/4", "cycle moon 1/27 2/3",
            "slot pin 0 0 1/2 1/4", "slot flat 0 1/3",
            "wheel a x 10", "wheel b y 20", "wheel c z 5",
            "joint y z 1/8", "mesh a b", "joint z y 0",
            "drive y -3/2",
            "dial m y 1/4 pin moon", "dial s x 0 - sun", "dial n z 1/3 flat -", "dial o z 2/3 - -",
        ]) + "\n")

    def test_the_shortest(self):
        plan = Plan(Sky([]), [], Work([("a", "x", 1000)], [], driver="x"), [])
        self.assertEqual(plan_text(plan), "wheel a x 1000\ndrive x 1\n")
        plan = Plan(Sky([]), [], Work([("a", "x", 1)], [], driver="x"), [], pace=(0, 1))
        self.assertEqual(plan_text(plan), "wheel a x 1\ndrive x 0\n")

    def test_numbers_below_zero(self):
        sky = Sky([("c", Cycle((-LONG, 7)))])
        plan = Plan(sky, [("p", Slot([((0, 1), (-1, 2)), ((1, 3), (-4, 1))]))], WORK, [], pace=(-1, 1))
        self.assertEqual(plan_text(plan), f"cycle c -{LONG}/7 0\nslot p 0 -1/2 1/3 -4\nwheel a x 10\nwheel b y 20\n"
                         "wheel c z 5\nmesh a b\ndrive x -1\n")

    def test_4000_digits(self):
        nines = "9" * 4000
        plan = Plan(Sky([("c", Cycle((-int(nines), 2)))]), [], WORK, [])
        self.assertEqual(plan_text(plan).split("\n")[0], f"cycle c -{nines}/2 0")

    def test_lines_of_seeded_plans(self):
        order = ["cycle", "slot", "wheel", "link", "drive", "dial"]
        for plan in seeded_plans(2, 80):
            text = plan_text(plan)
            self.assertTrue(text.endswith("\n") and not text.endswith("\n\n"))
            lines = [line.split(" ") for line in text[:-1].split("\n")]
            self.assertNotIn("", [word for line in lines for word in line])
            kinds = [{"mesh": "link", "joint": "link"}.get(line[0], line[0]) for line in lines]
            self.assertEqual(kinds, sorted(kinds, key=order.index))
            counts = [plan.sky.count(), len(plan.slots), len(plan.work.wheels), len(plan.work.links), 1, len(plan.dials)]
            self.assertEqual([kinds.count(kind) for kind in order], counts)
            names = [line[1] for line in lines if line[0] in ("cycle", "slot", "wheel", "dial")]
            self.assertEqual(names, plan.sky.names + [row[0] for row in plan.slots + plan.work.wheels + plan.dials])
            self.assertEqual(plan_text(plan), text)

    def test_forms(self):
        for plan in NOT_PLANS:
            self.assert_bad("plan", plan_text, plan)
