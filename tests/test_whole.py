"""Tests of what the document promises over the whole program [1] to [10], and of its files together."""

import copy
import importlib
import inspect
import random
from fractions import Fraction
from pathlib import Path

from tests.helpers import SkyCase, f, num, objects, odd_values, repr_of
from tests.test_almanac import moving
from tests.test_plans import PLAN, seeded_plans
from tests.test_shafts import RING, WORK, seeded_works
from wheelsky.almanac import designed, dial_errors, dial_place, trusted_until
from wheelsky.approx import nearest, nearest_paper, quotients
from wheelsky.cycles import Cycle
from wheelsky.darkening import Shade
from wheelsky.dates import Calendar, TwinCalendar
from wheelsky.errors import Looped
from wheelsky.finding import dial_sets, find_bad
from wheelsky.looks import look_plan, needs_paper
from wheelsky.meetings import meeting_paper
from wheelsky.mixed import Mixed
from wheelsky.motions import Motion
from wheelsky.plans import Plan, fraction_word, plan_text
from wheelsky.ratios import compare, is_fraction, minus, over, part_of, plus, times
from wheelsky.reader import fraction_of, read_plan
from wheelsky.shafts import Work
from wheelsky.skies import Sky
from wheelsky.slots import Slot
from wheelsky.spans import Span
from wheelsky.tables import continued, cycle_table
from wheelsky.workshop import Workshop, built, replay

LONG = 10 ** 39
TESTS = Path(__file__).resolve().parent
SPAN = Span((0, 1), (8, 1))
CYCLE = Cycle((1, 3), (2, 3))
OTHER = Cycle((1, 10))
CYCLES = [Cycle((0, 1)), CYCLE, OTHER]
SKY = Sky([("moon", CYCLE), ("sun", OTHER)])
SLOT = Slot([((0, 1), (0, 1)), ((1, 2), (1, 4))])
MOTION = Motion([((1, 1), CYCLE, SLOT)])
TARGET = Motion([((1, 2), OTHER, SLOT)])
CALENDAR = Calendar((0, 1), short=29)
TWIN = TwinCalendar(CALENDAR, Calendar((0, 0, 1), short=12))
SHADE = Shade(Cycle((0, 1)), Cycle((1, 1)), Cycle((3, 10)), width=(1, 5))
SHOP = built(WORK)
TABLE = [3, 5, 8, 9, 11]
KNOTS = [((0, 1), (0, 1)), ((1, 2), (1, 4))]
WHEELS = [("a", "x", 10), ("b", "y", 20), ("c", "y", 5), ("d", "z", 15)]
LINKS = [("mesh", "a", "b"), ("mesh", "d", "c")]
SETS = [(0, 1, 2), (1, 2), (2,)]
BREAKS = [("break", 0), ("break", 1)]
RECORDS = [("wheel", "a", "x", 10), ("wheel", "b", "y", 20), ("joint", "x", "y", (1, 2)), ("turn", "x", (2, 1))]
ATTRIBUTES = {
    Mixed: ["whole", "parts", "radices", "worth"], Span: ["first", "last", "length"], Cycle: ["rate", "start", "period"],
    Sky: ["names"], Work: ["wheels", "links", "driver"], Slot: ["knots"], Motion: ["terms"],
    Calendar: ["word", "short", "mean"], TwinCalendar: ["months", "years"],
    Shade: ["light", "cover", "node", "width", "interval", "gain"], Plan: ["sky", "slots", "work", "dials", "pace"],
    Workshop: ["looks"],
}
OPERATORS = {
    Mixed: "add sub neg eq", Span: "contains and eq", Cycle: "add sub neg eq", Sky: "iter contains eq", Work: "eq",
    Slot: "eq", Motion: "add sub neg", Calendar: "eq", TwinCalendar: "eq", Plan: "eq",
}
# For each function, class and method a call without an error: for a method first its object.
CALLS = {
    "ratios.fraction": [6, -4], "ratios.is_fraction": [(1, 2)], "ratios.plus": [(1, 2), (1, 3)],
    "ratios.minus": [(1, 2), (1, 3)], "ratios.times": [(1, 2), (1, 3)], "ratios.over": [(1, 2), (1, 3)],
    "ratios.compare": [(1, 2), (1, 3)], "ratios.floor_of": [(7, 4)], "ratios.part_of": [(7, 4)],
    "ratios.offset_of": [(7, 4)], "ratios.distance_of": [(7, 4)], "ratios.common_measure": [[(1, 2), (1, 3)]],
    "ratios.measure_paper": [[(1, 2), (1, 3)]], "ratios.is_measure_paper": [[(1, 2), (1, 3)], ((1, 6), (1, -1))],
    "mixed.Mixed": [1, (2,), {"radices": (4,)}], "mixed.mixed_of": [(7, 4), {"radices": (4,)}],
    "mixed.nearest_mixed": [(7, 4), {"radices": (4,)}],
    "spans.Span": [(0, 1), (8, 1)], "spans.Span.moved": [SPAN, (1, 2)], "spans.Span.cut": [SPAN, (1, 2)],
    "spans.Span.days": [SPAN], "spans.joined": [[SPAN]], "spans.gaps": [[Span((1, 1), (2, 1))], SPAN],
    "spans.shared": [[SPAN], [Span((1, 1), (2, 1))]],
    "cycles.Cycle": [(1, 3), (2, 3)], "cycles.Cycle.with_period": [Cycle, (3, 1), (2, 3)], "cycles.Cycle.turns": [CYCLE, (1, 2)],
    "cycles.Cycle.place": [CYCLE, (1, 2)], "cycles.Cycle.turned": [CYCLE, (1, 2)], "cycles.Cycle.geared": [CYCLE, (1, 2)],
    "cycles.Cycle.later": [CYCLE, (1, 2)], "cycles.Cycle.next_at": [CYCLE, (1, 2), (3, 1)],
    "cycles.Cycle.visits": [CYCLE, (1, 2), SPAN],
    "skies.Sky": [[("moon", CYCLE)]], "skies.Sky.count": [SKY], "skies.Sky.cycle": [SKY, "moon"],
    "skies.Sky.places": [SKY, (1, 2)], "skies.Sky.extended": [SKY, "mars", CYCLE], "skies.Sky.without": [SKY, "moon"],
    "skies.Sky.seen_from": [SKY, "moon"], "skies.Sky.paced_by": [SKY, "moon"], "skies.Sky.later": [SKY, (1, 2)],
    "skies.Sky.great_period": [SKY], "skies.Sky.rounds": [SKY],
    "meetings.meeting_rule": [CYCLES], "meetings.meeting_paper": [CYCLES],
    "meetings.is_meeting_paper": [CYCLES, ("every", (0, 1), (1, 1), (0, 1, 1))], "meetings.meetings": [CYCLES[:2], SPAN],
    "meetings.next_meeting": [CYCLES[:2], (1, 2)], "meetings.meeting_witness": [CYCLES[:2], (1, 1)],
    "nearness.is_near": [CYCLES, (1, 2), {"width": (1, 5)}], "nearness.near_spans": [CYCLES, SPAN, {"width": (1, 5)}],
    "nearness.near_paper": [CYCLES, SPAN, {"width": (1, 5)}],
    "nearness.is_near_paper": [CYCLES, SPAN, [], {"width": (1, 5)}],
    "nearness.next_near": [CYCLES, (1, 2), {"width": (1, 5), "within": (99, 1)}],
    "nearness.near_days": [CYCLES, SPAN, {"width": (1, 5)}],
    "approx.quotients": [(30, 13)], "approx.value_of": [[2, 3, 4]], "approx.convergents": [(30, 13)],
    "approx.nearest": [(30, 13), {"most": 5}], "approx.nearest_paper": [(30, 13), {"most": 5}],
    "approx.is_nearest_paper": [(30, 13), ((9, 4), (7, 3)), {"most": 5}],
    "trains.teeth_pair": [(30, 13), {"least": 4, "most": 12}], "trains.train_ratio": [[(2, 3), (5, 4)]],
    "trains.splits": [36, {"parts": 2, "least": 3, "most": 12}],
    "trains.fewest_train": [(15, 2), {"least": 2, "most": 12, "scale": 3}],
    "shafts.Work": [WHEELS, LINKS, {"driver": "x"}], "shafts.Work.shafts": [WORK], "shafts.Work.path": [WORK, "z"],
    "shafts.Work.lock_loop": [RING], "shafts.Work.shaft_rate": [WORK, "z"], "shafts.Work.ways": [WORK],
    "shafts.Work.slack_bound": [WORK, "z"], "shafts.step_factor": [WORK, (0, 1)],
    "shafts.is_path": [WORK, "z", [(0, 1), (1, -1)]], "shafts.is_lock_loop": [RING, [(0, 1), (1, 1), (2, 1)]],
    "slots.Slot": [KNOTS], "slots.Slot.carried": [SLOT, (5, 4)], "slots.Slot.slopes": [SLOT], "slots.Slot.sway": [SLOT],
    "slots.even_slot": [],
    "motions.Motion": [[((1, 1), CYCLE, SLOT)]], "motions.Motion.scaled": [MOTION, (1, 2)],
    "motions.Motion.turns": [MOTION, (1, 2)], "motions.Motion.place": [MOTION, (1, 2)],
    "motions.Motion.breaks": [MOTION, SPAN], "motions.Motion.pieces": [MOTION, SPAN], "motions.even_motion": [CYCLE],
    "motions.still_spans": [MOTION, SPAN], "motions.back_spans": [MOTION, SPAN], "motions.quickest": [MOTION, SPAN],
    "drift.error_paper": [MOTION, TARGET, SPAN], "drift.is_error_paper": [MOTION, TARGET, SPAN, []],
    "drift.paper_error": [[((0, 1), (1, 1), (0, 1), (1, 2))]], "drift.greatest_error": [MOTION, TARGET, SPAN],
    "drift.good_until": [MOTION, TARGET, SPAN, {"bound": (1, 2)}],
    "leaps.leap_word": [2, 5, {"turn": 1}], "leaps.is_even_word": [(0, 1)], "leaps.even_turn": [(0, 1)],
    "leaps.word_error": [(0, 1)], "leaps.best_word": [2, 5], "leaps.best_index": [2, 5],
    "leaps.leap_rule": [(2, 7), {"most": 5}],
    "dates.Calendar": [(0, 1), {"short": 29}], "dates.Calendar.year_days": [CALENDAR, 5],
    "dates.Calendar.first_day": [CALENDAR, 5], "dates.Calendar.date_of": [CALENDAR, 5], "dates.Calendar.day_of": [CALENDAR, 5, 3],
    "dates.TwinCalendar": [CALENDAR, CALENDAR], "dates.TwinCalendar.month_count": [TWIN, 5],
    "dates.TwinCalendar.first_month": [TWIN, 5], "dates.TwinCalendar.year_days": [TWIN, 5],
    "dates.TwinCalendar.first_day": [TWIN, 5], "dates.TwinCalendar.date_of": [TWIN, 5],
    "dates.TwinCalendar.day_of": [TWIN, 5, 3, 7], "dates.calendar_error": [TWIN, {"mean": (365, 1), "years": 9}],
    "tables.differences": [TABLE], "tables.heads_of": [TABLE, {"degree": 2}], "tables.table_of": [[0, 1, 2], {"count": 7}],
    "tables.degree_of": [TABLE], "tables.continued": [TABLE, {"degree": 2, "count": 7, "back": True}],
    "tables.reading": [TABLE, (5, 2), {"degree": 2}], "tables.straight_bound": [TABLE, {"degree": 4}],
    "tables.cycle_table": [CYCLE, {"day": -3, "count": 7}],
    "faults.find_fault": [TABLE, {"degree": 1}], "faults.is_fault": [TABLE, (2, 7), {"degree": 1}],
    "faults.mended": [TABLE, {"degree": 1}],
    "darkening.Shade": [CYCLE, OTHER, CYCLE, {"width": (1, 5)}], "darkening.Shade.moment_of": [SHADE, 3],
    "darkening.Shade.offset": [SHADE, 3], "darkening.Shade.is_dark": [SHADE, 3], "darkening.Shade.number_from": [SHADE, (1, 2)],
    "darkening.roll": [SHADE, SPAN], "darkening.dark_numbers": [SHADE, SPAN], "darkening.next_dark": [SHADE, 1, {"within": 9}],
    "series.shift_of": [SHADE, {"returns": 3}], "series.series_of": [SHADE, 0, {"returns": 3}],
    "series.series_members": [SHADE, 0, {"returns": 3}], "series.is_series": [SHADE, (-6, 6), {"returns": 3}],
    "series.series_in": [SHADE, SPAN, {"returns": 3}], "series.families": [SHADE, SPAN, {"returns": 3}],
    "series.next_series": [SHADE, 0, {"returns": 3}], "series.best_returns": [SHADE, {"most": 9}],
    "plans.Plan": [SKY, [("pin", SLOT)], WORK, [("m", "x", (0, 1), "pin", "moon")], {"pace": (2, 1)}],
    "plans.Plan.pointer": [PLAN, "m"], "plans.fraction_word": [(1, 2)], "plans.plan_text": [PLAN],
    "reader.fraction_of": ["2/4"], "reader.read_plan": ["wheel a x 10\ndrive x 1\ndial m x 0 - -"],
    "looks.look_classes": [4, SETS], "looks.fewest_looks": [4, SETS], "looks.look_plan": [4, SETS],
    "looks.is_look_plan": [4, SETS, None, {"looks": 2}], "looks.needs_paper": [4, SETS],
    "looks.is_needs_paper": [4, SETS, None, {"looks": 2}],
    "workshop.Workshop": [], "workshop.Workshop.add_wheel": [SHOP, "q", "x", 10], "workshop.Workshop.add_mesh": [SHOP, "d", "a"],
    "workshop.Workshop.add_joint": [SHOP, "z", "x", (1, 2)], "workshop.Workshop.drop_link": [SHOP, 0],
    "workshop.Workshop.recut": [SHOP, "a", 5], "workshop.Workshop.break_mesh": [SHOP, 0],
    "workshop.Workshop.mend_mesh": [SHOP, 0], "workshop.Workshop.turn": [SHOP, "x", (1, 2)], "workshop.Workshop.undo": [SHOP],
    "workshop.Workshop.redo": [SHOP], "workshop.Workshop.records": [SHOP], "workshop.Workshop.state": [SHOP],
    "workshop.Workshop.amount": [SHOP, "x"], "workshop.Workshop.look": [SHOP, "x"], "workshop.Workshop.as_work": [SHOP, "x"],
    "workshop.built": [WORK], "workshop.replay": [RECORDS],
    "finding.dial_sets": [WORK, BREAKS, ["y", "z"], {"by": (1, 2)}],
    "finding.find_bad": [WORK, BREAKS, ["y", "z"], SHOP, {"by": (1, 2)}],
    "almanac.dial_errors": [PLAN, SPAN], "almanac.trusted_until": [PLAN, SPAN, {"bound": (1, 2)}],
    "almanac.dial_place": [PLAN, SHOP, "m"], "almanac.dark_dates": [SHADE, TWIN, SPAN],
    "almanac.designed": [SKY, {"least": 4, "most": 12}],
}
JUDGED = {"is_fraction": "value", "is_measure_paper": "paper", "is_meeting_paper": "paper", "is_near_paper": "paper",
          "is_nearest_paper": "paper", "is_path": "path", "is_lock_loop": "loop", "is_error_paper": "paper",
          "is_even_word": "word", "is_fault": "answer", "is_series": "answer", "is_look_plan": "plan",
          "is_needs_paper": "paper"}


def interface():
    """Return tuples (call, signature) of all that the interface lists."""
    rows = []
    for line in (TESTS / "interface.txt").read_text().splitlines():
        name, _, rest = line.partition("(")
        rows.append((name, "(" + rest))
    return rows


def found(name):
    """Return what stands under a name such as spans.Span.moved."""
    file, *rest = name.split(".")
    value = importlib.import_module(f"wheelsky.{file}")
    for word in rest:
        value = getattr(value, word)
    return value


def is_method(name):
    return name.count(".") == 2


def fresh(name):
    """Return the callable, its arguments by position and by name; a Workshop among them is a new one."""
    given = list(CALLS[name])
    named = dict(given.pop()) if given and isinstance(given[-1], dict) else {}
    given = [built(WORK) if value is SHOP else copy.copy(value) if isinstance(value, list) else value for value in given]
    if name.endswith(("add_mesh", "add_joint")):
        given[0].drop_link(1)
    if name.endswith("find_bad"):
        given[3].break_mesh(1)
    if name.endswith("dial_place"):
        given[1] = built(PLAN.work)
    call = found(name)
    if is_method(name):
        thing = given.pop(0)
        call = getattr(thing, name.split(".")[2])
    return call, given, named


def parameters(name):
    """Return the names of the parameters in order, without self."""
    return [word for word in inspect.signature(found(name)).parameters if word not in ("self", "cls")]


def lists_in(value):
    """Return all lists in a value and in the attributes of objects in it, at whatever depth."""
    rows = []
    if isinstance(value, dict):
        value = list(value.values())
    if isinstance(value, list):
        rows.append(value)
    if isinstance(value, (list, tuple)):
        for item in value:
            rows += lists_in(item)
    for attribute in ATTRIBUTES.get(type(value), []):
        rows += lists_in(getattr(value, attribute))
    return rows


class InterfaceTest(SkyCase):
    def test_signatures(self):
        self.assertGreater(len(interface()), 160)
        for name, signature in interface():
            with self.subTest(name):
                call = found(name)
                words = str(inspect.signature(call))
                self.assertEqual(words.replace("(self, ", "(").replace("(self)", "()"), signature)

    def test_where_it_is_defined(self):
        for name, _ in interface():
            with self.subTest(name):
                file = importlib.import_module("wheelsky." + name.split(".")[0])
                thing = getattr(file, name.split(".")[1])
                self.assertEqual(thing.__module__, file.__name__)
                if is_method(name):
                    self.assertIn(name.split(".")[2], vars(thing))

    def test_operators(self):
        for kind in ATTRIBUTES:
            for word in OPERATORS.get(kind, "").split():
                self.assertIn(f"__{word}__", vars(kind))
            self.assertIs(kind.__eq__ is object.__eq__, "eq" not in OPERATORS.get(kind, "").split())

    def test_all_are_called(self):
        self.assertEqual(sorted(CALLS), sorted(name for name, _ in interface()))

    def test_attributes(self):
        seen = {}
        for thing in objects():
            seen[type(thing)] = True
            for name in ATTRIBUTES.get(type(thing), []):
                self.assertIsNotNone(getattr(thing, name))
            public = [name for name in vars(thing) if not name.startswith("_")]
            properties = [name for name, value in vars(type(thing)).items() if isinstance(value, property)]
            if type(thing) in ATTRIBUTES:
                self.assertEqual(sorted(public + properties), sorted(ATTRIBUTES[type(thing)]))
        self.assertLessEqual(set(ATTRIBUTES), set(seen))


class CallsTest(SkyCase):
    """Each function, class and method of the interface, called once and again."""

    def test_equal_calls_give_equal_answers(self):
        for name in CALLS:
            with self.subTest(name):
                answers = []
                for _ in range(2):
                    call, given, named = fresh(name)
                    answers.append(repr_of(call(*given, **named)))
                self.assertEqual(answers[0], answers[1])

    def test_arguments_stay(self):
        for name in CALLS:
            with self.subTest(name):
                call, given, named = fresh(name)
                before = [repr_of(value) for value in given] + [repr_of(value) for value in named.values()]
                call(*given, **named)
                after = [repr_of(value) for value in given] + [repr_of(value) for value in named.values()]
                if name == "finding.find_bad":
                    del before[3], after[3]
                self.assertEqual(after, before)

    def test_lists_told_are_new(self):
        lists = 0
        for name in CALLS:
            with self.subTest(name):
                call, given, named = fresh(name)
                answer = call(*given, **named)
                told = lists_in(answer)
                passed = lists_in(given)
                for rows in told:
                    self.assertFalse(any(rows is other for other in passed))
                right = repr_of(fresh_answer(name))
                for rows in told:
                    rows.clear()
                for rows in passed:
                    rows.clear()
                lists += len(told)
                self.assertEqual(repr_of(fresh_answer(name)), right)
                if not isinstance(answer, (list, tuple, dict)):
                    self.assertEqual(repr_of(answer), right)
        self.assertGreater(lists, 60)

    def test_lists_passed_may_change_later(self):
        for name in CALLS:
            call, given, named = fresh(name)
            answer = call(*given, **named)
            right = repr_of(answer)
            for value in given:
                if isinstance(value, list):
                    value.clear()
            self.assertEqual(repr_of(answer), right)

    def test_each_wrong_argument_alone_and_with_others(self):
        checked = 0
        for name in CALLS:
            names = parameters(name)
            for at, parameter in enumerate(names):
                if JUDGED.get(name.split(".")[-1]) == parameter:
                    continue
                for wrong in (None, {}, [None], (None,), 1.5, Fraction(1, 2), b"a", {1}, SkyCase, [[]], ((),)):
                    for behind in (False, True):
                        call, given, named = fresh(name)
                        values = dict(zip(names, given), **named)
                        values[parameter] = wrong
                        if behind:
                            values.update((other, wrong) for other in names[at + 1:])
                        by_name = {key: values[key] for key in named}
                        by_place = [values[key] for key in names if key not in named]
                        with self.subTest(name, parameter=parameter, wrong=wrong):
                            self.assert_bad(parameter, call, *by_place, **by_name)
                        checked += 1
        self.assertGreater(checked, 4000)

    def test_judges_never_raise(self):
        for name in CALLS:
            judged = JUDGED.get(name.split(".")[-1])
            if judged is None:
                continue
            names = parameters(name)

            def judge(value):
                call, given, named = fresh(name)
                given[names.index(judged)] = value
                return call(*given, **named)
            if judged in ("value", "word"):
                # Of these, odd values may be right ones.
                for value in odd_values():
                    self.assertIs(type(judge(value)), bool)
            else:
                self.assert_judges_all(judge)


def fresh_answer(name):
    call, given, named = fresh(name)
    return call(*given, **named)


class EqualityTest(SkyCase):
    def test_beside_other_kinds(self):
        things = objects()
        for left in things:
            for right in odd_values():
                if type(left) is not type(right):
                    self.assert_false(left == right)
                    self.assert_true(left != right)

    def test_equal_objects(self):
        for left, right in zip(objects(), objects()):
            if type(left).__eq__ is not object.__eq__:
                self.assert_true(left == right)
                self.assert_false(left != right)
            self.assert_true(left == left)


class ValuesComeBackTest(SkyCase):
    """[5]: integers that the program returned may be passed back, to any function."""

    def test_fractions_of_20000_digits(self):
        value = (10 ** 39, 7)
        while len(bin(value[0])) < 66000:
            value = times(value, value)
            value = plus(value, (1, 3)) if value[1] % 3 else value
        self.assert_true(is_fraction(value))
        self.assertEqual(minus(plus(value, (1, 2)), (1, 2)), value)
        self.assertEqual(over(times(value, value), value), value)
        self.assertEqual(compare(value, plus(value, (1, LONG))), -1)
        self.assertEqual(plus(part_of(value), (value[0] // value[1], 1)), value)
        self.assertEqual(part_of(Cycle(value).turns((1, 1))), Cycle(value).place((1, 1)))
        self.assertEqual(nearest_paper(value, most=1)[0][1], 1)

    def test_fractions_that_are_written(self):
        value = (3, 7)
        while len(str(value[1])) < 3000:
            value = times(value, (10 ** 39, 10 ** 39 - 1))
        word = fraction_word(value)
        self.assertEqual(word, f"{value[0]}/{value[1]}")
        self.assertIsNone(fraction_of(word))

    def test_tables_of_tables(self):
        unit, values = cycle_table(Cycle((LONG, 7), (1, LONG)), day=LONG, count=60)
        more = values
        for _ in range(5):
            more = continued(more, degree=8, count=60)
        self.assertEqual(more[0] - values[0], 300 * (values[1] - values[0]))
        self.assertEqual(unit, 7 * LONG)

    def test_papers(self):
        cycles = [Cycle(f(k, LONG - k), f(k, 97)) for k in range(3)]
        paper = meeting_paper(cycles)
        self.assertIn(paper[0], ("never", "every"))
        self.assertEqual(nearest(over((1, 1), (LONG, 7)), most=1), (0, 1))
        self.assertEqual(quotients((LONG, 7))[0], LONG // 7)


class TogetherTest(SkyCase):
    def test_amounts_and_rates(self):
        """[75]: a work built and driven both ways."""
        source = random.Random(1)
        joints = plain = 0
        for work in seeded_works(1, 400):
            try:
                shop = built(work)
            except Looped:
                continue
            meshed = all(link[0] == "mesh" for link in work.links)
            for _ in range(8):
                shop.turn(work.driver, f(source.randint(-20, 20), source.randint(1, 6)))
                for shaft in work.shafts():
                    rate = work.shaft_rate(shaft)
                    if rate is None:
                        self.assertEqual(shop.amount(shaft), (0, 1))
                        self.assertIsNone(work.slack_bound(shaft))
                        continue
                    off = abs(num(shop.amount(shaft)) - num(rate) * num(shop.amount(work.driver)))
                    self.assertLessEqual(off, num(work.slack_bound(shaft)))
                    if meshed:
                        self.assertEqual(off, 0)
                    joints, plain = joints + (off > 0), plain + meshed
        self.assertGreater(min(joints, plain), 100)

    def test_the_slack_bound_is_reached(self):
        wheels = [("a", "x", 10), ("b", "y", 20), ("c", "z", 6), ("d", "w", 3)]
        work = Work(wheels, [("joint", "x", "y", (1, 4)), ("joint", "y", "z", (1, 2)), ("mesh", "c", "d")], driver="x")
        shop = built(work)
        shop.turn("x", (1, 1))
        off = num(shop.amount("w")) - num(work.shaft_rate("w")) * num(shop.amount("x"))
        self.assertEqual(abs(off), num(work.slack_bound("w")))
        self.assertEqual(work.slack_bound("w"), (3, 2))

    def test_plan_text_shop_and_pointers(self):
        """[59] [64] [70] [75]: they tell the same places."""
        checked = 0
        for plan in seeded_plans(2, 150, 9):
            links = [link for link in plan.work.links if link[0] == "mesh"]
            plan = Plan(plan.sky, plan.slots, Work(plan.work.wheels, links, driver=plan.work.driver), plan.dials, pace=plan.pace)
            again = read_plan(plan_text(plan))
            self.assert_true(again == plan)
            try:
                shop = built(again.work)
            except Looped:
                continue
            moment = Fraction(0)
            for step in (Fraction(1), Fraction(-7, 3), Fraction(40)):
                moment += step
                shop.turn(again.work.driver, times(again.pace, f(step)))
                for dial in plan.dials:
                    place = plan.pointer(dial[0]).place(f(moment))
                    self.assertEqual(dial_place(again, shop, dial[0]), place)
                    self.assertEqual(again.pointer(dial[0]).place(f(moment)), place)
                    checked += 1
        self.assertGreater(checked, 200)

    def test_a_designed_plan_shows_the_sky(self):
        """[30] [77]: by its table, its pointers and its shop."""
        rates = [Fraction(1), Fraction(7, 12), Fraction(13, 30), Fraction(5, 2), Fraction(30, 29), Fraction(9, 11)]
        sky = moving(rates)
        plan = designed(sky, least=2, most=60)
        span = Span((0, 1), (50, 1))
        self.assertEqual(dial_errors(plan, span), [(name, (0, 1), (0, 1)) for name in sky.names])
        self.assertEqual(trusted_until(plan, span, bound=(0, 1)), (50, 1))
        shop = built(plan.work)
        for day in (0, 1, 13):
            shop.turn("d0", (-day, 1))
            moment = (num(shop.amount("d0")) * -1).numerator
            for name, cycle in sky:
                self.assertEqual(dial_place(plan, shop, name), cycle.place((moment, 1)))
                self.assertEqual(plan.pointer(name).place((moment, 1)), cycle.place((moment, 1)))
        self.assert_true(read_plan(plan_text(plan)) == plan)

    def test_a_designed_plan_errs_evenly(self):
        sky = Sky([("moon", Cycle((30, 13), (1, 4)))])
        plan = designed(sky, least=4, most=12)
        off = Fraction(9, 4) - Fraction(30, 13)
        for days in (1, 2, 5):
            self.assertEqual(dial_errors(plan, Span((0, 1), (days, 1))), [("moon", f(days * abs(off)), (days, 1))])
        self.assertEqual(trusted_until(plan, Span((0, 1), (99, 1)), bound=f(3 * abs(off))), (3, 1))

    def test_a_fault_in_a_designed_work(self):
        """[76] [77]: each mesh alone moves its own shaft."""
        sky = moving([Fraction(1, k) for k in range(1, 7)])
        plan = designed(sky, least=5, most=60)
        suspects = [("break", number) for number in range(6)]
        shafts = [dial[1] for dial in plan.dials]
        sets = dial_sets(plan.work, suspects, shafts)
        self.assertEqual(sets, [(number,) for number in range(6)])
        self.assertEqual(look_plan(6, sets)[0], "look")
        self.assertEqual(needs_paper(6, sets)[-1], ((0, 1, 2, 3, 4, 5), 5))
        for guilty in range(6):
            shop = built(plan.work)
            shop.break_mesh(guilty)
            self.assertEqual(find_bad(plan.work, suspects, shafts, shop)[0], (guilty,))

    def test_a_workshop_as_a_plan(self):
        shop = replay(RECORDS + [("recut", "b", 30)])
        plan = Plan(Sky([]), [], shop.as_work("y"), [("m", "x", (1, 4), None, None)])
        self.assertEqual(plan_text(plan), "wheel a x 10\nwheel b y 30\njoint x y 1/2\ndrive y 1\ndial m x 1/4 - -\n")
        self.assertEqual(dial_place(plan, shop, "m"), (1, 4))
