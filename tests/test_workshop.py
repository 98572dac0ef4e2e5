"""Tests of workshops [4] [5] [6] [31] [34] [68] [69] [70] [71] [72] [73] [74]."""

import random
from fractions import Fraction

from tests.helpers import SkyCase, f, not_fractions, not_integers, num, objects
from tests.test_shafts import LOOSE_RING, NOT_WORKS, RING, SQUARE, WORK, chain, seeded_works
from tests.test_skies import NAMES, NOT_NAMES
from wheelsky.errors import Looped, SkyError
from wheelsky.shafts import Work
from wheelsky.workshop import Workshop, built, replay

LONG = 10 ** 39
BUILD = [("wheel", "a", "x", 10), ("wheel", "b", "y", 20), ("wheel", "c", "z", 9), ("mesh", "a", "b"),
         ("joint", "y", "z", (1, 8))]
# For each deed: the method, and arguments that BUILD lets it do.
DEEDS = {
    "wheel": (Workshop.add_wheel, ("d", "x", 5)),
    "mesh": (Workshop.add_mesh, ("e", "a")),
    "joint": (Workshop.add_joint, ("w", "x", (1, 3))),
    "drop": (Workshop.drop_link, (0,)),
    "recut": (Workshop.recut, ("b", 7)),
    "break": (Workshop.break_mesh, (0,)),
    "mend": (Workshop.mend_mesh, (0,)),
    "turn": (Workshop.turn, ("y", (-2, 3))),
}
PARAMETERS = {"wheel": ["wheel", "shaft", "teeth"], "mesh": ["first", "second"], "joint": ["first", "second", "play"],
              "drop": ["number"], "recut": ["wheel", "teeth"], "break": ["number"], "mend": ["number"],
              "turn": ["shaft", "by"]}
NOT_TEETH = not_integers() + [0, 1001, -1, LONG]
NOT_PLAYS = not_fractions() + [(-1, 1), (-1, LONG)]
NOT_NUMBERS = not_integers() + [-1, -LONG]
WRONG = {"wheel": NOT_NAMES, "shaft": NOT_NAMES, "first": NOT_NAMES, "second": NOT_NAMES, "teeth": NOT_TEETH,
         "play": NOT_PLAYS, "number": NOT_NUMBERS, "by": not_fractions()}


def busy():
    """Return a workshop in which each of DEEDS can be done."""
    return replay(BUILD + [("wheel", "e", "w", 12)])


class Model:
    """A workshop by the words of the document, which does one deed after another."""

    def __init__(self, records=()):
        self.wheels, self.links, self.amounts = [], [], {}
        for record in records:
            self.do(record)

    def state(self):
        wheels = [tuple(row) for row in self.wheels]
        links = [(link, held if link[0] == "mesh" else f(held)) for link, held in self.links]
        return wheels, links, [(shaft, f(amount)) for shaft, amount in self.amounts.items()]

    def wheel(self, name):
        return [row for row in self.wheels if row[0] == name][0]

    def do(self, record):
        kind = record[0]
        if kind == "wheel":
            self.wheels.append(list(record[1:]))
            self.amounts.setdefault(record[2], Fraction(0))
        elif kind in ("mesh", "joint"):
            self.links.append([record, True if kind == "mesh" else Fraction(0)])
        elif kind == "drop":
            del self.links[record[1]]
        elif kind == "recut":
            self.wheel(record[1])[2] = record[2]
        elif kind in ("break", "mend"):
            self.links[record[1]][1] = kind == "mend"
        else:
            self.move(record[1], num(record[2]), None)

    def shafts_of(self, link):
        return [self.wheel(name)[1] for name in link[1:]] if link[0] == "mesh" else list(link[1:3])

    def move(self, shaft, by, over):
        """Move a shaft, and what follows it over all links but the one over which it is moved."""
        self.amounts[shaft] += by
        if by == 0:
            return
        for row in self.links:
            ends = self.shafts_of(row[0])
            if row is over or shaft not in ends:
                continue
            far = ends[1 - ends.index(shaft)]
            self.move(far, self.passed(row, ends.index(shaft) == 0, by), row)

    def passed(self, row, ahead, by):
        link, held = row
        if link[0] == "mesh":
            near, far = [self.wheel(name)[2] for name in (link[1:] if ahead else link[:0:-1])]
            return -by * near / far if held else Fraction(0)
        play = num(link[3])
        if ahead:
            grown = held + by
            moved = grown - play if grown > play else grown if grown < 0 else Fraction(0)
            row[1] += by - moved
        else:
            grown = held - by
            moved = play - grown if grown > play else -grown if grown < 0 else Fraction(0)
            row[1] += moved - by
        return moved


def random_deed(source, model):
    """Return a deed, which may be refused."""
    names = [row[0] for row in model.wheels] or ["a"]
    shafts = list(model.amounts) or ["x"]
    kind = source.choice(["wheel", "wheel", "mesh", "mesh", "joint", "joint", "drop", "recut", "break", "mend", "turn",
                          "turn", "turn", "turn"])
    number = source.randrange(max(1, len(model.links)))
    given = {
        "wheel": (f"w{len(names)}{source.randint(0, 9)}", f"s{source.randint(0, 6)}", source.randint(1, 12)),
        "mesh": (source.choice(names), source.choice(names)),
        "joint": (source.choice(shafts), source.choice(shafts), f(source.randint(0, 5), 4)),
        "drop": (number,), "recut": (source.choice(names), source.randint(1, 12)), "break": (number,), "mend": (number,),
        "turn": (source.choice(shafts), f(source.randint(-9, 9), source.randint(1, 4))),
    }
    return (kind,) + given[kind]


def do(shop, record):
    """Do the deed of a record by the method of its name."""
    return DEEDS[record[0]][0](shop, *record[1:])


def seeded_shops(seed, many, steps=80):
    """Return pairs of a shop and the model of it, after random deeds of which many were refused."""
    source = random.Random(seed)
    pairs = []
    for _ in range(many):
        shop, model = Workshop(), Model()
        for _ in range(steps):
            record = random_deed(source, model)
            before = (shop.state(), shop.records())
            try:
                do(shop, record)
            except SkyError:
                assert (shop.state(), shop.records()) == before
            else:
                model.do(record)
        pairs.append((shop, model))
    return pairs


class ShopCase(SkyCase):
    def seen(self, shop):
        """Return all that a shop tells."""
        return (shop.records(), shop.state(), shop.looks)

    def refused(self, shop, check, *given):
        """Check that a deed is refused and changes nothing, not what redo does either."""
        before = self.seen(shop)
        check(*given)
        self.assertEqual(self.seen(shop), before)


class DeedsTest(ShopCase):
    def test_it_begins_with_nothing(self):
        shop = Workshop()
        self.assertEqual((shop.records(), shop.state(), shop.looks), ([], ([], [], []), 0))
        self.assertIs(type(shop.looks), int)
        self.assertIsNone(shop.undo())
        self.assertIsNone(shop.redo())

    def test_each_deed(self):
        for kind, (deed, given) in DEEDS.items():
            shop = busy()
            before = shop.records()
            self.assertIsNone(deed(shop, *given))
            self.assertEqual(shop.records(), before + [(kind,) + given])
            self.assertEqual(shop.state(), Model(shop.records()).state())

    def test_forms_in_their_order(self):
        for kind, (deed, given) in DEEDS.items():
            names = PARAMETERS[kind]
            for at, name in enumerate(names):
                shop = busy()
                for value in WRONG[name]:
                    # What stands behind is wrong too.
                    rest = tuple(WRONG[other][0] for other in names[at + 1:])
                    self.refused(shop, self.assert_bad, name, deed, shop, *given[:at], value, *rest)
                    self.refused(shop, self.assert_bad, name, deed, shop, *given[:at], value, *given[at + 1:])

    def test_sixty_deeds(self):
        shop = busy()
        for number in range(60 - len(shop.records())):
            shop.turn("x", (number, 1))
        self.assertEqual(len(shop.records()), 60)
        for kind, (deed, given) in DEEDS.items():
            self.refused(shop, self.assert_many, 60, deed, shop, *given)
            # The forms go first, the errors of the entry behind.
            for at, name in enumerate(PARAMETERS[kind]):
                self.refused(shop, self.assert_bad, name, deed, shop, *given[:at], WRONG[name][0], *given[at + 1:])
        self.refused(shop, self.assert_many, 60, shop.add_wheel, "a", "x", 1)
        self.refused(shop, self.assert_many, 60, shop.turn, "q", (1, 1))
        self.refused(shop, self.assert_many, 60, shop.drop_link, 99)
        self.assertEqual(shop.undo(), ("turn", "x", (53, 1)))
        shop.turn("y", (1, 1))
        self.refused(shop, self.assert_many, 60, shop.turn, "y", (1, 1))

    def test_wheels(self):
        shop = Workshop()
        shop.add_wheel("a", "x", 10)
        shop.add_wheel("b", "y", 1000)
        shop.add_wheel("c", "x", 1)
        wheels = [("a", "x", 10), ("b", "y", 1000), ("c", "x", 1)]
        self.assertEqual(shop.state(), (wheels, [], [("x", (0, 1)), ("y", (0, 1))]))
        self.refused(shop, self.assert_taken, "b", shop.add_wheel, "b", "z", 5)
        shop.turn("x", (1, 2))
        shop.add_wheel("x", "x", 7)
        self.assertEqual(shop.amount("x"), (1, 2))

    def test_names_of_all_lengths(self):
        shop = Workshop()
        for name in NAMES:
            shop.add_wheel(name, name, 10)
        self.assertEqual([row[0] for row in shop.state()[2]], NAMES)

    def test_twelve_wheels_and_thirteen(self):
        for shafts in (12, 1):
            shop = Workshop()
            for number in range(12):
                shop.add_wheel(f"w{number}", f"s{number % shafts}", 10)
            self.assertEqual(len(shop.state()[0]), 12)
            self.refused(shop, self.assert_many, 12, shop.add_wheel, "w12", "s0", 10)
            self.refused(shop, self.assert_many, 12, shop.add_wheel, "w12", "q", 10)
            self.refused(shop, self.assert_taken, "w3", shop.add_wheel, "w3", "q", 10)

    def test_meshes(self):
        shop = replay(BUILD[:3] + [("wheel", "d", "x", 5)])
        for first, second, name in (("q", "r", "q"), ("a", "q", "q"), ("q", "a", "q"), ("x", "a", "x"), ("a", "y", "y")):
            self.refused(shop, self.assert_no_name, name, shop.add_mesh, first, second)
        for first, second in (("a", "a"), ("a", "d"), ("d", "a")):
            self.refused(shop, self.assert_mismatch, shop.add_mesh, first, second)
        shop.add_mesh("b", "a")
        self.assertEqual(shop.state()[1], [(("mesh", "b", "a"), True)])
        for first, second in (("a", "b"), ("b", "a"), ("d", "b")):
            self.refused(shop, self.assert_looped, shop.add_mesh, first, second)
        shop.add_mesh("b", "c")
        self.refused(shop, self.assert_looped, shop.add_mesh, "a", "c")
        self.refused(shop, self.assert_looped, shop.add_joint, "z", "x", (0, 1))
        # A mesh of one shaft goes before a loop.
        self.refused(shop, self.assert_mismatch, shop.add_mesh, "d", "a")

    def test_joints(self):
        shop = replay(BUILD[:3])
        for first, second, name in (("q", "r", "q"), ("x", "q", "q"), ("q", "x", "q"), ("a", "x", "a"), ("x", "b", "b")):
            self.refused(shop, self.assert_no_name, name, shop.add_joint, first, second, (1, 2))
        self.refused(shop, self.assert_mismatch, shop.add_joint, "x", "x", (1, 2))
        shop.add_joint("y", "x", (0, 1))
        shop.add_joint("y", "z", (LONG, 7))
        self.assertEqual(shop.state()[1], [(("joint", "y", "x", (0, 1)), (0, 1)), (("joint", "y", "z", (LONG, 7)), (0, 1))])
        for first, second in (("x", "y"), ("y", "x"), ("x", "z"), ("z", "x")):
            self.refused(shop, self.assert_looped, shop.add_joint, first, second, (1, 2))
        self.refused(shop, self.assert_looped, shop.add_mesh, "a", "c")
        self.refused(shop, self.assert_mismatch, shop.add_joint, "z", "z", (1, 2))

    def test_a_broken_mesh_counts_as_a_link(self):
        shop = replay(BUILD)
        shop.break_mesh(0)
        for call, given in ((shop.add_mesh, ("a", "b")), (shop.add_mesh, ("c", "a")), (shop.add_joint, ("x", "z", (1, 1)))):
            self.refused(shop, self.assert_looped, call, *given)
        shop.drop_link(0)
        shop.add_joint("x", "z", (1, 1))

    def test_dropped_links(self):
        shop = replay([("wheel",) + row for row in chain(5)] + [("mesh", f"w{k}", f"w{k + 1}") for k in range(4)])
        shop.break_mesh(2)
        shop.drop_link(1)
        links = [(("mesh", "w0", "w1"), True), (("mesh", "w2", "w3"), False), (("mesh", "w3", "w4"), True)]
        self.assertEqual(shop.state()[1], links)
        for number in (3, 4, LONG):
            self.refused(shop, self.assert_mismatch, shop.drop_link, number)
            self.refused(shop, self.assert_mismatch, shop.break_mesh, number)
            self.refused(shop, self.assert_mismatch, shop.mend_mesh, number)
        # A loop may be closed elsewhere afterwards, but not two.
        shop.add_mesh("w0", "w4")
        self.refused(shop, self.assert_looped, shop.add_mesh, "w1", "w2")
        self.assertEqual(shop.state()[1][3], (("mesh", "w0", "w4"), True))
        shop.mend_mesh(1)
        shop.turn("s0", (1, 1))
        self.assertEqual(shop.state(), Model(shop.records()).state())
        self.refused(Workshop(), self.assert_mismatch, Workshop().drop_link, 0)

    def test_recut(self):
        shop = replay(BUILD)
        shop.turn("x", (1, 1))
        before = shop.state()
        shop.recut("b", 5)
        self.assertEqual(shop.state(), ([("a", "x", 10), ("b", "y", 5), ("c", "z", 9)], before[1], before[2]))
        self.refused(shop, self.assert_no_name, "q", shop.recut, "q", 5)
        self.refused(shop, self.assert_no_name, "x", shop.recut, "x", 5)
        shop.turn("x", (1, 1))
        self.assertEqual(shop.amount("y"), (-5, 2))
        shop.recut("b", 5)
        self.assertEqual(shop.records()[-1], ("recut", "b", 5))
        self.assertEqual(len(shop.records()), len(BUILD) + 4)

    def test_break_and_mend(self):
        shop = replay(BUILD)
        for deed, whole in ((shop.break_mesh, False), (shop.break_mesh, False), (shop.mend_mesh, True), (shop.mend_mesh, True)):
            deed(0)
            self.assertIs(shop.state()[1][0][1], whole)
        self.assertEqual(shop.records()[5:], [("break", 0), ("break", 0), ("mend", 0), ("mend", 0)])
        for number in (1, 2, LONG):
            self.refused(shop, self.assert_mismatch, shop.break_mesh, number)
            self.refused(shop, self.assert_mismatch, shop.mend_mesh, number)
        self.refused(shop, self.assert_no_name, "q", shop.turn, "q", (1, 1))
        self.refused(shop, self.assert_no_name, "a", shop.turn, "a", (1, 1))

    def test_lists_are_new(self):
        shop = replay(BUILD)
        before = self.seen(shop)
        shop.records().clear()
        for rows in shop.state():
            rows.clear()
        self.assertEqual(self.seen(shop), before)
        self.assertEqual([type(rows) for rows in shop.state()], [list, list, list])
        self.assertIs(type(shop.state()), tuple)

    def test_seeded(self):
        turned = linked = 0
        for shop, model in seeded_shops(1, 120):
            self.assertEqual(shop.state(), model.state())
            self.assertEqual(shop.state(), Model(shop.records()).state())
            turned += any(amount != (0, 1) for _, amount in shop.state()[2])
            linked += len(shop.state()[1]) >= 2
        self.assertGreater(min(turned, linked), 30)


class TurnTest(ShopCase):
    def amounts(self, shop):
        return dict(shop.state()[2])

    def test_example(self):
        shop = replay(BUILD)
        shop.turn("x", (1, 1))
        self.assertEqual(shop.state()[2], [("x", (1, 1)), ("y", (-1, 2)), ("z", (-1, 2))])
        shop.turn("x", (-1, 2))
        links = [(("mesh", "a", "b"), True), (("joint", "y", "z", (1, 8)), (1, 8))]
        self.assertEqual(shop.state()[1:], (links, [("x", (1, 2)), ("y", (-1, 4)), ("z", (-3, 8))]))

    def test_joint_from_the_first_shaft(self):
        # Forward and back within the play, just to its end, beyond it.
        shop = replay([("wheel", "a", "x", 1), ("wheel", "b", "y", 1), ("joint", "x", "y", (1, 2))])
        for by, far, slack in (((1, 4), (0, 1), (1, 4)), ((1, 4), (0, 1), (1, 2)), ((1, 4), (1, 4), (1, 2)),
                               ((-1, 4), (1, 4), (1, 4)), ((-1, 4), (1, 4), (0, 1)), ((-1, 4), (0, 1), (0, 1)),
                               ((5, 1), (9, 2), (1, 2)), ((-5, 1), (0, 1), (0, 1)), ((0, 1), (0, 1), (0, 1))):
            shop.turn("x", by)
            self.assertEqual((self.amounts(shop)["y"], shop.state()[1][0][1]), (far, slack))

    def test_joint_from_the_second_shaft(self):
        shop = replay([("wheel", "a", "x", 1), ("wheel", "b", "y", 1), ("joint", "x", "y", (1, 2))])
        for by, far, slack in (((1, 4), (1, 4), (0, 1)), ((-1, 4), (1, 4), (1, 4)), ((-1, 4), (1, 4), (1, 2)),
                               ((-1, 4), (0, 1), (1, 2)), ((1, 2), (0, 1), (0, 1)), ((1, 2), (1, 2), (0, 1)),
                               ((-5, 1), (-4, 1), (1, 2)), ((1, 3), (-4, 1), (1, 6))):
            shop.turn("y", by)
            self.assertEqual((self.amounts(shop)["x"], shop.state()[1][0][1]), (far, slack))

    def test_a_play_of_zero(self):
        shop = replay([("wheel", "a", "x", 1), ("wheel", "b", "y", 1), ("joint", "x", "y", (0, 1))])
        for shaft, by in (("x", (1, 3)), ("x", (-5, 2)), ("y", (7, 3)), ("y", (-LONG, 11)), ("x", (0, 1))):
            shop.turn(shaft, by)
            self.assertEqual(self.amounts(shop)["x"], self.amounts(shop)["y"])
            self.assertEqual(shop.state()[1][0][1], (0, 1))

    def test_a_shaft_that_moves_by_zero_passes_nothing_on(self):
        # The second joint has slack, which a movement would take away.
        shop = replay([("wheel",) + row for row in chain(4)] + [("joint", "s0", "s1", (1, 1)), ("joint", "s1", "s2", (1, 1)),
                                                                 ("mesh", "w2", "w3")])
        shop.turn("s1", (1, 2))
        self.assertEqual([held for _, held in shop.state()[1]], [(0, 1), (1, 2), True])
        shop.turn("s0", (1, 2))
        self.assertEqual([amount for _, amount in shop.state()[2]], [(1, 1), (1, 2), (0, 1), (0, 1)])
        self.assertEqual([held for _, held in shop.state()[1]], [(1, 2), (1, 2), True])

    def test_whole_and_broken_meshes(self):
        shop = replay([("wheel", "a", "x", 10), ("wheel", "b", "y", 15), ("wheel", "c", "y", 8), ("wheel", "d", "z", 6),
                       ("mesh", "b", "a"), ("mesh", "c", "d")])
        shop.turn("x", (3, 1))
        self.assertEqual(shop.state()[2], [("x", (3, 1)), ("y", (-2, 1)), ("z", (8, 3))])
        shop.break_mesh(1)
        shop.turn("x", (3, 1))
        self.assertEqual(shop.state()[2], [("x", (6, 1)), ("y", (-4, 1)), ("z", (8, 3))])
        shop.turn("z", (1, 1))
        self.assertEqual(shop.state()[2], [("x", (6, 1)), ("y", (-4, 1)), ("z", (11, 3))])
        shop.mend_mesh(1)
        shop.turn("z", (-2, 1))
        self.assertEqual(shop.state()[2], [("x", (15, 4)), ("y", (-5, 2)), ("z", (5, 3))])
        shop.break_mesh(0)
        shop.turn("z", (-2, 1))
        self.assertEqual(shop.state()[2], [("x", (15, 4)), ("y", (-1, 1)), ("z", (-1, 3))])

    def test_a_broken_mesh_parts_what_is_behind(self):
        shop = replay([("wheel",) + row for row in chain(3)] + [("mesh", "w0", "w1"), ("joint", "s1", "s2", (1, 1))])
        shop.break_mesh(0)
        shop.turn("s0", (9, 1))
        self.assertEqual(shop.state()[1:], ([(("mesh", "w0", "w1"), False), (("joint", "s1", "s2", (1, 1)), (0, 1))],
                                            [("s0", (9, 1)), ("s1", (0, 1)), ("s2", (0, 1))]))

    def test_turns_by_zero(self):
        shop = replay(BUILD + [("turn", "x", (1, 5))])
        before = shop.state()
        for shaft in ("x", "y", "z"):
            shop.turn(shaft, (0, 1))
        self.assertEqual(shop.state(), before)
        self.assertEqual(shop.records()[-3:], [("turn", shaft, (0, 1)) for shaft in ("x", "y", "z")])

    def test_long_numbers(self):
        for digits in (40, 80):
            by = f(10 ** digits - 1, 10 ** (digits - 1) + 7)
            records = BUILD + [("turn", "x", by), ("turn", "z", f(-num(by) * 3)), ("turn", "y", (10 ** digits - 1, 1))]
            shop = replay(records)
            self.assertEqual(shop.state(), Model(records).state())
            for _, amount in shop.state()[2]:
                self.assert_fraction(amount)

    def seeded_questions(self, seed):
        """Return records of shops, a shaft of each, and two numbers of one sign."""
        source = random.Random(seed)
        found = []
        for shop, _ in seeded_shops(seed, 70, 45):
            shafts = [shaft for shaft, _ in shop.state()[2]]
            if shafts:
                sign = source.choice((1, -1))
                a, b = [sign * Fraction(source.randint(0, 12), source.randint(1, 5)) for _ in range(2)]
                found.append((shop.records(), source.choice(shafts), a, b))
        return found

    def test_several_turns_of_one_sign(self):
        """[71]."""
        joints = 0
        for records, shaft, a, b in self.seeded_questions(2):
            parts = replay(records + [("turn", shaft, f(a)), ("turn", shaft, f(b)), ("turn", shaft, f(a))])
            whole = replay(records + [("turn", shaft, f(2 * a + b))])
            self.assertEqual(parts.state(), whole.state())
            joints += any(link[0] == "joint" for link, _ in whole.state()[1])
        self.assertGreater(joints, 20)

    def test_there_and_back_and_there(self):
        """[71]."""
        moved = 0
        for records, shaft, a, _ in self.seeded_questions(3):
            thrice = replay(records + [("turn", shaft, f(a)), ("turn", shaft, f(-a)), ("turn", shaft, f(a))])
            once = replay(records + [("turn", shaft, f(a))])
            self.assertEqual(thrice.state(), once.state())
            back = replay(records + [("turn", shaft, f(a)), ("turn", shaft, f(-a))])
            moved += back.state() != replay(records).state()
        self.assertGreater(moved, 3)

    def test_slack_stays_within_the_play(self):
        for shop, _ in seeded_shops(4, 60):
            for link, held in shop.state()[1]:
                if link[0] == "joint":
                    self.assertTrue(0 <= num(held) <= num(link[3]))


class LookTest(ShopCase):
    def test_amounts_and_looks(self):
        shop = replay(BUILD + [("turn", "x", (1, 1))])
        self.assertEqual((shop.amount("z"), shop.looks), ((-1, 2), 0))
        self.assertEqual((shop.look("z"), shop.looks), ((-1, 2), 1))
        self.assertEqual((shop.look("x"), shop.look("x"), shop.looks), ((1, 1), (1, 1), 3))
        self.assertEqual(len(shop.records()), 6)
        for call in (shop.amount, shop.look):
            self.refused(shop, self.assert_no_name, "q", call, "q")
            self.refused(shop, self.assert_no_name, "a", call, "a")
            for name in NOT_NAMES:
                self.refused(shop, self.assert_bad, "shaft", call, name)
        self.assert_no_name("x", Workshop().look, "x")

    def test_looks_are_no_deeds(self):
        shop = replay(BUILD)
        shop.look("x")
        shop.undo()
        self.assertEqual(shop.looks, 1)
        shop.look("y")
        self.assertEqual(shop.redo(), BUILD[-1])
        self.assertEqual(shop.looks, 2)
        for _ in range(70):
            shop.look("z")
        self.assertEqual((shop.looks, len(shop.records())), (72, 5))


class UndoTest(ShopCase):
    def test_every_kind_of_deed(self):
        for kind, (deed, given) in DEEDS.items():
            shop = busy()
            shop.turn("x", (1, 3))
            before = (shop.records(), shop.state())
            deed(shop, *given)
            after = (shop.records(), shop.state())
            for _ in range(2):
                self.assertEqual(shop.undo(), (kind,) + given)
                self.assertEqual((shop.records(), shop.state()), before)
                self.assertEqual(shop.redo(), (kind,) + given)
                self.assertEqual((shop.records(), shop.state()), after)
            self.assertIsNone(shop.redo())

    def test_amounts_and_slacks_come_back(self):
        shop = replay(BUILD + [("turn", "x", (1, 1)), ("turn", "y", (1, 16)), ("turn", "z", (-3, 1))])
        states = [shop.state()]
        while shop.undo() is not None:
            states.append(shop.state())
        self.assertEqual(len(states), 9)
        self.assertEqual(shop.state(), ([], [], []))
        for state in states[:-1][::-1]:
            shop.redo()
            self.assertEqual(shop.state(), state)
        self.assertIsNone(shop.redo())

    def test_none_left(self):
        shop = Workshop()
        self.assertIsNone(shop.undo())
        self.assertIsNone(shop.redo())
        shop.add_wheel("a", "x", 10)
        self.assertIsNone(shop.redo())
        self.assertEqual(shop.undo(), ("wheel", "a", "x", 10))
        self.assertIsNone(shop.undo())
        self.assertEqual(shop.redo(), ("wheel", "a", "x", 10))

    def test_a_new_deed_behind_an_undo(self):
        shop = replay(BUILD)
        shop.undo()
        shop.undo()
        shop.turn("x", (1, 1))
        self.assertIsNone(shop.redo())
        self.assertEqual(shop.records(), BUILD[:3] + [("turn", "x", (1, 1))])
        shop.undo()
        self.assertEqual(shop.redo(), ("turn", "x", (1, 1)))
        self.assertIsNone(shop.redo())

    def test_what_leaves_redo_as_it_is(self):
        shop = replay(BUILD)
        shop.undo()
        self.assert_no_name("q", shop.turn, "q", (1, 1))
        self.assert_bad("by", shop.turn, "x", 1)
        self.assert_taken("a", shop.add_wheel, "a", "x", 1)
        shop.look("x")
        shop.amount("x")
        self.assert_no_name("q", shop.look, "q")
        shop.state()
        shop.records()
        shop.as_work("x")
        shop.undo()
        self.assertEqual((shop.redo(), shop.redo(), shop.redo()), (BUILD[3], BUILD[4], None))
        self.assertEqual(shop.state(), replay(BUILD).state())

    def test_sixty_in_force(self):
        shop = Workshop()
        shop.add_wheel("a", "x", 10)
        for _ in range(59):
            shop.turn("x", (1, 1))
        self.assert_many(60, shop.turn, "x", (1, 1))
        self.assertEqual(shop.undo(), ("turn", "x", (1, 1)))
        # A deed that is refused leaves redo as it is; the same one done does not.
        self.assert_no_name("q", shop.turn, "q", (1, 1))
        self.assertEqual(shop.redo(), ("turn", "x", (1, 1)))
        self.assert_many(60, shop.turn, "x", (1, 1))
        shop.undo()
        shop.turn("x", (5, 1))
        self.assertIsNone(shop.redo())
        self.assertEqual((len(shop.records()), shop.amount("x")), (60, (63, 1)))
        self.assert_many(60, shop.turn, "x", (1, 1))

    def test_seeded(self):
        source = random.Random(5)
        for _ in range(60):
            shop, done, undone = Workshop(), [], []
            for _ in range(60):
                choice = source.random()
                if choice < 0.25:
                    expected = done.pop() if done else None
                    self.assertEqual(shop.undo(), expected)
                    undone += [expected] if expected else []
                elif choice < 0.45:
                    expected = undone.pop() if undone else None
                    self.assertEqual(shop.redo(), expected)
                    done += [expected] if expected else []
                else:
                    record = random_deed(source, Model(done))
                    try:
                        do(shop, record)
                    except SkyError:
                        continue
                    done, undone = done + [record], []
                self.assertEqual((shop.records(), shop.state()), (done, Model(done).state()))


class BuiltTest(ShopCase):
    def test_records(self):
        shop = built(WORK)
        self.assertEqual(shop.records(), [("wheel",) + row for row in WORK.wheels] + WORK.links)
        self.assertEqual(shop.looks, 0)
        self.assertEqual(shop.state()[2], [(shaft, (0, 1)) for shaft in WORK.shafts()])
        self.assertEqual(shop.undo(), WORK.links[-1])
        for work in NOT_WORKS:
            self.assert_bad("work", built, work)

    def test_looped(self):
        for work in (RING, SQUARE, LOOSE_RING):
            self.assert_looped(built, work)
        two = [("a", "x", 10), ("b", "y", 10), ("c", "z", 10)]
        for links in ([("mesh", "a", "b")] * 2, [("mesh", "a", "b"), ("joint", "y", "x", (1, 1))],
                      [("joint", "x", "y", (0, 1))] * 2, [("mesh", "b", "c"), ("mesh", "c", "b")]):
            self.assert_looped(built, Work(two, links, driver="x"))
            self.assert_looped(built, Work(two, links, driver="z"))
        self.assertEqual(built(Work(two, [("mesh", "b", "c")], driver="x")).as_work("x"),
                         Work(two, [("mesh", "b", "c")], driver="x"))

    def test_seeded(self):
        looped = free = 0
        for work in seeded_works(6, 200):
            roots = {shaft: shaft for shaft in work.shafts()}
            closed = False
            known = {wheel: shaft for wheel, shaft, _ in work.wheels}
            for link in work.links:
                near, far = [known[name] for name in link[1:]] if link[0] == "mesh" else link[1:3]
                if roots[near] == roots[far]:
                    closed = True
                roots = {shaft: roots[near] if root == roots[far] else root for shaft, root in roots.items()}
            looped, free = looped + closed, free + (not closed)
            if closed:
                self.assert_looped(built, work)
            else:
                self.assert_true(built(work).as_work(work.driver) == work)
        self.assertGreater(min(looped, free), 40)

    def test_twelve_wheels(self):
        work = Work(chain(12), [("mesh", f"w{k}", f"w{k + 1}") for k in range(11)], driver="s3")
        self.assertEqual(len(built(work).records()), 23)

    def test_shops_are_their_own(self):
        left, right = built(WORK), built(WORK)
        left.turn("x", (1, 1))
        left.look("x")
        self.assertEqual((right.amount("x"), right.looks, len(right.records())), ((0, 1), 0, 6))


class AsWorkTest(ShopCase):
    def test_recut_and_broken(self):
        shop = replay(BUILD + [("recut", "b", 7), ("break", 0), ("turn", "x", (1, 1))])
        work = shop.as_work("z")
        self.assertEqual(work, Work([("a", "x", 10), ("b", "y", 7), ("c", "z", 9)], BUILD[3:], driver="z"))
        self.assertIs(type(work), Work)
        shop.recut("b", 1)
        self.assertEqual(work.wheels[1], ("b", "y", 7))

    def test_errors(self):
        shop = replay(BUILD)
        for name in ("q", "a"):
            self.refused(shop, self.assert_no_name, name, shop.as_work, name)
        self.assert_no_name("x", Workshop().as_work, "x")
        for name in NOT_NAMES:
            self.assert_bad("driver", shop.as_work, name)


class ReplayTest(ShopCase):
    def test_every_kind(self):
        records = BUILD + [("wheel", "d", "x", 5), ("recut", "d", 6), ("break", 0), ("mend", 0), ("turn", "x", (-1, 3)),
                           ("drop", 1), ("joint", "z", "y", (0, 1))]
        shop = self.assert_unchanged([records], replay, records)
        self.assertEqual((shop.records(), shop.looks), (records, 0))
        self.assertEqual(shop.state(), Model(records).state())
        self.assertIs(type(shop), Workshop)
        self.assertEqual(self.seen(replay([])), self.seen(Workshop()))
        while shop.undo() is not None:
            pass
        self.assertEqual(shop.state(), ([], [], []))

    def test_lengths(self):
        records = [("wheel", "a", "x", 10)] + [("turn", "x", (1, 1))] * 59
        shop = replay(records)
        self.assertEqual((len(shop.records()), shop.amount("x")), (60, (59, 1)))
        self.assert_bad("records", replay, records + [("turn", "x", (1, 1))])
        self.assert_bad("records", replay, [("turn", "q", (1, 1))] * 61)

    def test_wrong_records(self):
        wrong = [None, True, 1, "", "wheel", (), [], {}, {"wheel": 1}, ("wheel",), ("turn",), ("drop",), ("undo",), ("look", "x"),
                 ("Wheel", "a", "x", 1), (None, 1), (1, 2), ([], 1), ({}, 1), (("wheel",), "a", "x", 1), ("",), ("redo",)]
        wrong += [(thing, 0) for thing in objects()] + objects()
        for kind, (_, given) in DEEDS.items():
            record = (kind,) + given
            wrong += [list(record), record[:-1], record + (0,), record + ((1, 1),), (record,), record[::-1], (kind, record)]
            for at, name in enumerate(PARAMETERS[kind]):
                wrong += [(kind,) + given[:at] + (value,) + given[at + 1:] for value in WRONG[name]]
        # The first deed would be refused, but no deed is done before all forms are checked.
        for record in wrong:
            for records in ([record], [("turn", "q", (1, 1)), record], [record, ("turn", "q", (1, 1))], BUILD + [record]):
                self.assert_bad("records", replay, records)
        for records in [None, True, "", tuple(BUILD), {}, ("wheel", "a", "x", 1), 1, BUILD[0]] + objects():
            self.assert_bad("records", replay, records)

    def test_the_first_error_of_a_deed(self):
        for records, error in (
            ([("turn", "x", (1, 1))], (self.assert_no_name, "x")),
            (BUILD + [("turn", "q", (1, 1)), ("wheel", "a", "x", 1)], (self.assert_no_name, "q")),
            (BUILD + [("wheel", "a", "x", 1), ("turn", "q", (1, 1))], (self.assert_taken, "a")),
            (BUILD + [("mesh", "a", "c")], (self.assert_looped,)),
            (BUILD + [("mesh", "a", "a")], (self.assert_mismatch,)),
            (BUILD + [("drop", 2)], (self.assert_mismatch,)),
            (BUILD + [("break", 1)], (self.assert_mismatch,)),
            (BUILD + [("recut", "q", 1)], (self.assert_no_name, "q")),
            ([("wheel",) + row for row in chain(13)], (self.assert_many, 12)),
        ):
            check, *attributes = error
            check(*attributes, replay, records)
        self.assert_error(Looped, {}, replay, BUILD + [("joint", "z", "x", (1, 1)), ("turn", "q", (1, 1))])

    def test_equal_and_apart(self):
        for shop, _ in seeded_shops(7, 40):
            if "s0" in dict(shop.state()[2]):
                shop.look("s0")
            again = replay(shop.records())
            self.assertEqual((again.state(), again.records(), again.looks), (shop.state(), shop.records(), 0))
            before = self.seen(shop)
            while again.undo() is not None:
                pass
            self.assertEqual(self.seen(shop), before)
            while shop.undo() is not None:
                pass
            self.assertEqual(again.state(), shop.state())

    def test_a_list_that_changes_later(self):
        records = list(BUILD)
        shop = replay(records)
        records.clear()
        self.assertEqual(shop.records(), BUILD)

    def test_equality_with_other_kinds(self):
        shop = Workshop()
        for other in (None, 0, [], (), "shop", WORK):
            self.assert_false(shop == other)
            self.assert_true(shop != other)
