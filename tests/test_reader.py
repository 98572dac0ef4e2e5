"""Tests of reading plans [2] [3] [4] [5] [6] [10] [58] [60] [61] [62] [63] [64]."""

import random
import re
from fractions import Fraction

from tests.helpers import SkyCase, f, odd_values
from tests.test_plans import PLAN, seeded_plans
from tests.test_skies import NAMES
from wheelsky.cycles import Cycle
from wheelsky.errors import ReadError
from wheelsky.plans import Plan, fraction_word, plan_text
from wheelsky.reader import fraction_of, read_plan
from wheelsky.shafts import Work
from wheelsky.skies import Sky
from wheelsky.slots import Slot

NINES = "9" * 40
# Together these lines are a plan; each is a right one.
GOOD = ["cycle moon 1/27 2/3", "slot pin 0 0 1/2 -1/4", "wheel a x 10", "wheel b y 20", "mesh a b", "joint x z 1/8",
        "wheel c z 5", "drive x -3/2", "dial m y 1/4 pin moon"]
RIGHT = dict((line.split(" ")[0], line) for line in GOOD)
NAME = re.compile(r"[a-z][a-z0-9]{0,11}\Z")
INTEGER = re.compile(r"(0|-?[1-9][0-9]{0,39})\Z")
FRACTION = re.compile(r"(0|-?[1-9][0-9]{0,39})(/[1-9][0-9]{0,39})?\Z")
ORDER = {"cycle": "n.p", "wheel": "nnt", "mesh": "nn", "joint": "nns", "drive": "n.", "dial": "nnpmm"}
MOST = {"cycle": 8, "slot": 6, "wheel": 12, "link": 12, "dial": 6, "drive": 1}


def word_is_right(word, form):
    """Tell from the document whether a word has its form."""
    if form in "nm":
        return bool(NAME.match(word)) or (form == "m" and word == "-")
    if form == "t":
        return bool(INTEGER.match(word)) and 1 <= int(word) <= 1000
    if not FRACTION.match(word):
        return False
    return {".": True, "p": 0 <= Fraction(word) < 1, "s": Fraction(word) >= 0}[form]


def columns_of(line):
    """Return the columns of the words of a line."""
    return [match.start() + 1 for match in re.finditer(r"[^ ]+", line)]


def first_check(line):
    """Return (column, reason) of the first error of a line alone, or None, from the document."""
    for at in range(1, len(line) + 1):
        if line[at - 1] == " " and (at == 1 or line[at - 2] == " " or at == len(line)):
            return at, "space"
    words = line.split(" ")
    columns = columns_of(line)
    if words[0] not in RIGHT:
        return 1, "command"
    given = len(words) - 1
    if words[0] == "slot":
        if given > 17:
            return columns[18], "words"
        if given < 3 or given % 2 == 0:
            return len(line) + 1, "words"
        forms = "n" + "p." * (given // 2)
    else:
        forms = ORDER[words[0]]
        if given != len(forms):
            return (columns[len(forms) + 1] if given > len(forms) else len(line) + 1), "words"
    for word, form, column in zip(words[1:], forms, columns[1:]):
        if not word_is_right(word, form):
            return column, "word"
    if words[0] == "slot":
        places = [Fraction(word) for word in words[2::2]]
        for number, place in enumerate(places):
            if place != 0 if number == 0 else place <= places[number - 1]:
                return columns[2 + 2 * number], "knots"
    return None


def second_check(words, columns, before, everything):
    """Return (column, reason) of the first error of a line among all, or None, from the document."""
    kinds = ["link" if row[0] in ("mesh", "joint") else row[0] for row in before + [words]]
    if kinds.count(kinds[-1]) > MOST[kinds[-1]]:
        return 1, "many"
    if words[0] in ("cycle", "slot", "wheel", "dial") and any(row[:2] == words[:2] for row in before):
        return columns[1], "taken"
    named = {kind: [row[1] for row in everything if row[0] == kind] for kind in ("cycle", "slot", "wheel")}
    named["shaft"] = [row[2] for row in everything if row[0] == "wheel"]
    uses = {"mesh": [(1, "wheel"), (2, "wheel")], "joint": [(1, "shaft"), (2, "shaft")], "drive": [(1, "shaft")],
            "dial": [(2, "shaft"), (4, "slot"), (5, "cycle")]}
    for at, kind in uses.get(words[0], []):
        if words[at] != "-" and words[at] not in named[kind]:
            return columns[at], "unknown"
    shafts = {}
    for row in everything:
        if row[0] == "wheel" and row[1] not in shafts:
            shafts[row[1]] = row[2]
    if words[0] == "mesh" and shafts[words[1]] == shafts[words[2]]:
        return columns[2], "same"
    if words[0] == "joint" and words[1] == words[2]:
        return columns[2], "same"
    return None


def slow_error(text):
    """Return (line, column, reason) of the first error of a text, or None, from the document."""
    lines = text.split("\n")
    rows = [(number, line) for number, line in enumerate(lines, 1) if line and not line.startswith("#")]
    for number, line in rows:
        found = first_check(line)
        if found:
            return (number,) + found
    everything = [line.split(" ") for _, line in rows]
    for at, (number, line) in enumerate(rows):
        found = second_check(everything[at], columns_of(line), everything[:at], everything)
        if found:
            return (number,) + found
    if "drive" not in [row[0] for row in everything]:
        return len(lines) + 1, 1, "missing"
    return None


def told_error(text):
    """Return (line, column, reason) of the error that reading a text raises, or None."""
    try:
        read_plan(text)
    except ReadError as caught:
        return caught.line, caught.column, caught.reason
    return None


class ReaderCase(SkyCase):
    def check(self, text, *expected):
        """Check the error of a text, also against the words of the document."""
        self.assertEqual(told_error(text), expected or None)
        self.assertEqual(slow_error(text), expected or None)

    def check_line(self, line, column, reason):
        """Check the error of a line, alone and among right lines."""
        self.check(line, 1, column, reason)
        self.check("\n".join(GOOD + [line]), len(GOOD) + 1, column, reason)
        self.check("\n".join(["", "# so", line] + GOOD), 3, column, reason)


class FractionOfTest(SkyCase):
    def test_plain(self):
        for word, value in (("0", (0, 1)), ("5", (5, 1)), ("-5", (-5, 1)), ("1/2", (1, 2)), ("2/4", (1, 2)),
                            ("-6/4", (-3, 2)), ("0/3", (0, 1)), ("0/1", (0, 1)), ("7/1", (7, 1)), ("10/100", (1, 10)),
                            (NINES, (int(NINES), 1)), ("-" + NINES, (-int(NINES), 1)), (f"{NINES}/{NINES}", (1, 1)),
                            (f"-1/{NINES}", (-1, int(NINES))), (f"-{NINES}/1{'0' * 39}", (-int(NINES), 10 ** 39))):
            self.assertEqual(fraction_of(word), value)
            self.assert_fraction(fraction_of(word))

    def test_no_fraction_words(self):
        for word in ("", "-", "-0", "00", "01", "-01", "1/0", "0/0", "1/01", "1/-2", "--1", "-", "/", "1/", "/2", "-/2",
                     "1//2", "1/2/3", " 1", "1 ", "1 /2", "1/ 2", "1\n", "\n1", "1/2\n", "+1", "1.5", "1/2.0", "a", "1a",
                     "0x1", "1_0", "-0/3", "1/-0", "1/00", "-1/-2", "1/+2", "(1, 2)", "~", NINES + "9", "-" + NINES + "9",
                     "1/" + NINES + "9", NINES + "9/" + NINES, "1" * 20000, "1/" + "9" * 19998, "-" * 20000):
            self.assertIsNone(fraction_of(word))

    def test_digits_of_40_and_41(self):
        for digits in range(1, 45):
            word = "7" * digits
            value = int(word) if digits <= 40 else None
            self.assertEqual(fraction_of(word), value and (value, 1))
            self.assertEqual(fraction_of("-" + word), value and (-value, 1))
            self.assertEqual(fraction_of("1/" + word), value and (1, value))
            self.assertEqual(fraction_of("-1/" + word), value and (-1, value))

    def test_forms(self):
        for word in odd_values() + [1.5, b"1", ["1"], ("1",)]:
            if not isinstance(word, str):
                self.assert_bad("word", fraction_of, word)
        self.assertIsNone(fraction_of("always"))

    def test_what_fraction_word_has_written(self):
        source = random.Random(1)
        for digits in list(range(1, 41)) * 3:
            value = f(source.randint(-10 ** digits + 1, 10 ** digits - 1), source.randint(1, 10 ** digits - 1))
            self.assertEqual(fraction_of(fraction_word(value)), value)

    def test_seeded(self):
        source = random.Random(2)
        found = 0
        for _ in range(4000):
            word = "".join(source.choice("0012/-") for _ in range(source.randint(0, 6)))
            right = f(Fraction(word)) if FRACTION.match(word) else None
            self.assertEqual(fraction_of(word), right)
            found += right is not None
        self.assertGreater(found, 200)


class LinesTest(ReaderCase):
    """The first check."""

    def test_the_right_lines(self):
        self.check("\n".join(GOOD))
        plan = read_plan("\n".join(GOOD))
        self.assertIs(type(plan), Plan)
        self.assertEqual(plan.slots, [("pin", Slot([((0, 1), (0, 1)), ((1, 2), (-1, 4))]))])
        self.assertEqual(plan.sky, Sky([("moon", Cycle((1, 27), (2, 3)))]))
        wheels = [("a", "x", 10), ("b", "y", 20), ("c", "z", 5)]
        links = [("mesh", "a", "b"), ("joint", "x", "z", (1, 8))]
        self.assertEqual(plan.work, Work(wheels, links, driver="x"))
        self.assertEqual((plan.dials, plan.pace), ([("m", "y", (1, 4), "pin", "moon")], (-3, 2)))

    def test_spaces(self):
        for command, line in RIGHT.items():
            at = len(command)
            self.check_line(" " + line, 1, "space")
            self.check_line("  " + line, 1, "space")
            self.check_line(line + " ", len(line) + 1, "space")
            self.check_line(line + "  ", len(line) + 2, "space")
            self.check_line(line + "   ", len(line) + 2, "space")
            self.check_line(line[:at] + " " + line[at:], at + 2, "space")
            self.check_line(line[:at] + "   " + line[at + 1:], at + 2, "space")
            self.check_line(line[:at] + "  " + line[at + 1:] + " ", at + 2, "space")
            self.check_line(" " + line + " ", 1, "space")
        self.check_line(" ", 1, "space")
        self.check_line("  ", 1, "space")
        self.check_line("a ", 2, "space")
        self.check_line("a  ", 3, "space")
        self.check_line(" # so", 1, "space")
        self.check_line(" #", 1, "space")

    def test_commands(self):
        for line in ("moon", "Cycle moon 1 0", "cycles moon 1 0", "cycle, moon 1 0", "-", "0", "x # so", "drive-x 1", "plan",
                     "~", "wheels", "whee", "dials m", "a" * 300, "link a b"):
            self.check_line(line, 1, "command")

    def test_words(self):
        counts = {"cycle": 3, "wheel": 3, "joint": 3, "mesh": 2, "drive": 2, "dial": 5}
        for command, many in counts.items():
            words = RIGHT[command].split(" ")
            self.assertEqual(len(words), many + 1)
            for given in range(many):
                line = " ".join(words[:given + 1])
                self.check_line(line, len(line) + 1, "words")
            for more in ("x", "x y", "0 0 0", "#"):
                self.check_line(RIGHT[command] + " " + more, len(RIGHT[command]) + 2, "words")

    def test_words_of_slots(self):
        knots = " ".join(f"{place}/9 7" if place else "0 7" for place in range(9)).split(" ")
        for given in range(0, 23):
            line = " ".join((["slot", "pin"] + knots + ["x"] * 5)[:given + 1])
            if given in (3, 5, 7, 9, 11, 13, 15, 17):
                self.assertEqual(first_check(line), None)
                plan = read_plan("wheel a x 1\ndrive x 1\n" + line)
                self.assertEqual(len(plan.slots[0][1].knots), given // 2)
            elif given < 17:
                self.check_line(line, len(line) + 1, "words")
            else:
                column = len(" ".join(line.split(" ")[:18])) + 2
                self.check_line(line, column, "words")

    def test_forms_of_words(self):
        not_names = ["A", "0a", "abcdefghijklm", "a-b", "a_", "-a", "a/b", "1", "_", "#", "aB", "~a", "9"]
        not_fractions = ["-0", "01", "1/0", "1/", "a", "-", "1.5", "+1", "0/01", "1/-2", "7" * 41, "1/" + "7" * 41, "--1"]
        forms = {"n": not_names + ["-"], "m": not_names + ["--"], ".": not_fractions,
                 "p": not_fractions + ["1", "2/2", "-1/2", "3/2", "-1", NINES],
                 "s": not_fractions + ["-1", "-1/" + NINES], "t": not_fractions + ["0", "1001", "-5", "10/1", "20/2", NINES]}
        for command, line in RIGHT.items():
            words = line.split(" ")
            for at, form in enumerate(ORDER.get(command, "np.p."), 1):
                column = len(" ".join(words[:at])) + 2
                for wrong in forms[form]:
                    self.check_line(" ".join(words[:at] + [wrong] + words[at + 1:]), column, "word")
                    # Of two wrong words the first one counts.
                    self.check_line(" ".join(words[:at] + [wrong] + ["?"] * (len(words) - at - 1)), column, "word")

    def test_right_words_at_the_edges(self):
        for name in NAMES:
            self.check(f"wheel {name} {name} 1000\ndrive {name} 0/5\ncycle {name} -{NINES}/{NINES} 0/7\n"
                       f"slot {name} 0/2 0 1/{NINES} 1\ndial {name} {name} 0 {name} {name}")
        self.check("wheel a x 1\ndrive x 0\nwheel b y 1000\njoint x y 0")
        self.check(f"wheel a x 1\ndrive x {NINES}\nwheel b y 1000\njoint x y {NINES}/3")
        self.check(f"wheel a x 1\ndrive x 1\ndial d x {NINES[:-1]}8/{NINES} - -")

    def test_knots(self):
        for line, column in (("slot pin 1/2 0", 10), ("slot pin 1/9 0 1/2 0", 10), ("slot pin 0 1/2 0 1/2", 16),
                             ("slot pin 0 0 1/2 5 2/4 6", 20), ("slot pin 0/3 0 2/4 5 1/3 6 1/4 7", 22),
                             ("slot pin 0 0 1/2 5 1/3 6 1/4 x", 30), ("slot pin 0 0 3/4 0 0 0 7/8 0", 20)):
            reason = "word" if line[-1] == "x" else "knots"
            self.check_line(line, column, reason)

    def test_two_errors_in_a_line(self):
        # In the order of the rules, not of the columns.
        self.check_line("moon  x ", 6, "space")
        self.check_line("cycle A B ", 10, "space")
        self.check_line("moon", 1, "command")
        self.check_line("cycle A", 8, "words")
        self.check_line("wheel A B C D", 13, "words")
        self.check_line("slot A 1/2 x y", 15, "words")
        self.check_line("slot pin 1/2 x", 14, "word")
        self.check_line("wheel A b 0", 7, "word")

    def test_errors_in_two_lines(self):
        self.check("wheel a x 0\n drive x 1", 1, 11, "word")
        self.check("\n#\ndrive x 1 1\nmoon", 3, 11, "words")
        # The second check comes behind the first one of all lines.
        self.check("mesh a b\nmoon", 2, 1, "command")
        self.check("drive x 1\ndrive x 1\ndrive x 1 ", 3, 10, "space")

    def test_empty_lines_and_remarks(self):
        text = "\n\n# moon\n#\n##  x \nwheel a x 10\n\n#drive x 1\ndrive x 1\n\n"
        self.check(text)
        self.assertEqual(read_plan(text), read_plan("wheel a x 10\ndrive x 1"))
        self.check(text + " # so", 11, 1, "space")
        self.check("", 2, 1, "missing")
        self.check("\n", 3, 1, "missing")
        self.check("#", 2, 1, "missing")
        self.check("# drive x 1\n", 3, 1, "missing")

    def test_long_texts(self):
        self.check("#" * 20000, 2, 1, "missing")
        self.check("\n" * 20000, 20002, 1, "missing")
        self.check("a" * 20000, 1, 1, "command")
        self.check("x " * 10000, 1, 20000, "space")
        self.check("slot " + "0 " * 9000 + "0", 1, 40, "words")
        self.check("drive x " + "1" * 19000, 1, 9, "word")
        self.check("drive x 1\n" * 1900, 1, 7, "unknown")
        self.check("wheel a x 1\n" + "drive x 1\n" * 1900, 3, 1, "many")


class TogetherTest(ReaderCase):
    """The second check."""

    def test_many(self):
        lines = ["wheel a x 10", "wheel b y 10", "wheel c z 10", "drive x 1"]
        rows = {8: [f"cycle c{number} 1 0" for number in range(9)], 6: [f"slot p{number} 0 0" for number in range(7)]}
        for most, more in rows.items():
            self.check("\n".join(lines + more[:most]))
            self.check("\n".join(lines + more), len(lines) + most + 1, 1, "many")
            self.check("\n".join([more[0]] + lines + more[1:]), len(lines) + most + 1, 1, "many")
        wheels = [f"wheel w{number} s{number} 10" for number in range(13)]
        self.check("\n".join(wheels[:12] + ["drive s0 1"]))
        self.check("\n".join(wheels + ["drive s0 1"]), 13, 1, "many")
        dials = [f"dial d{number} x 0 - -" for number in range(7)]
        self.check("\n".join(lines + dials[:6]))
        self.check("\n".join(lines + dials), 11, 1, "many")
        self.check("\n".join(lines + ["drive x 1"]), 5, 1, "many")
        self.check("\n".join(["drive z 2"] + lines), 5, 1, "many")

    def test_many_links(self):
        lines = ["wheel a x 10", "wheel b y 10", "drive x 1"]
        links = ["mesh a b", "joint y x 0", "mesh b a", "joint x y 1/2"] * 4
        self.check("\n".join(lines + links[:12]))
        for rows in (links[:13], ["mesh a b"] * 13, ["joint x y 1"] * 13, ["mesh a b"] * 12 + ["joint x y 1"]):
            self.check("\n".join(lines + rows), 16, 1, "many")

    def test_taken(self):
        lines = ["wheel a x 10", "drive x 1", "cycle c 1 0", "slot p 0 0", "dial d x 0 - -"]
        self.check("\n".join(lines))
        for line, column in (("wheel a y 20", 7), ("cycle c 2 1/2", 7), ("slot p 0 1", 6), ("dial d x 1/2 p c", 6)):
            self.check("\n".join(lines + [line]), 6, column, "taken")
        self.check("drive x 1\nwheel a x 10\nwheel a y 20", 3, 7, "taken")

    def test_taken_only_under_another_command(self):
        self.check("wheel a a 10\ndrive a 1\ncycle a 1 0\nslot a 0 0\ndial a a 0 a a\nwheel b a 10")

    def test_unknown(self):
        lines = ["wheel a x 10", "wheel b y 10", "drive x 1", "cycle c 1 0", "slot p 0 0"]
        for line, column in (("mesh q b", 6), ("mesh a q", 8), ("mesh q r", 6), ("mesh x b", 6), ("mesh a y", 8),
                             ("joint q y 0", 7), ("joint x q 0", 9), ("joint a y 0", 7), ("joint q q 0", 7),
                             ("dial d q 0 p c", 8), ("dial d x 0 q c", 12), ("dial d x 0 p q", 14), ("dial d a 0 q q", 8),
                             ("dial d x 1/2 c q", 14), ("dial d x 0 - q", 14), ("dial d x 0 q -", 12), ("dial d x 0 - p", 14)):
            self.check("\n".join(lines + [line]), 6, column, "unknown")
        self.check("wheel a x 10\ndrive a 1", 2, 7, "unknown")
        self.check("drive x 1", 1, 7, "unknown")
        self.check("cycle x 1 0\nslot x 0 0\nwheel x a 10\ndial x a 0 x x\ndrive x 1", 5, 7, "unknown")

    def test_declared_later(self):
        self.check("dial d x 1/2 p c\ndrive x 1\njoint y x 0\nmesh a b\nslot p 0 0\nwheel b y 1\nwheel a x 1\ncycle c 1 0")

    def test_declared_by_a_refused_line(self):
        # The line that declares is refused too, but behind the one that names the thing.
        self.check("wheel a x 10\nwheel a y 10\nmesh a b", 2, 7, "taken")
        self.check("joint x y 0\nwheel a x 10\nwheel a y 10\ndrive x 1", 3, 7, "taken")
        wheels = "\n".join(f"wheel w{number} s{number} 10" for number in range(13))
        self.check("mesh w0 w12\njoint s1 s12 0\ndrive s12 1\n" + wheels, 16, 1, "many")
        cycles = "\n".join(f"cycle c{number} 1 0" for number in range(9))
        self.check("dial d x 0 - c8\nwheel a x 1\ndrive x 1\n" + cycles, 12, 1, "many")
        slots = "\n".join(f"slot p{number} 0 0" for number in range(7))
        self.check("dial d x 0 p6 -\nwheel a x 1\ndrive x 1\n" + slots, 10, 1, "many")

    def test_same(self):
        lines = ["wheel a x 10", "wheel b x 10", "wheel c y 10", "drive x 1"]
        self.check("\n".join(lines + ["mesh a b"]), 5, 8, "same")
        self.check("\n".join(lines + ["mesh c c"]), 5, 8, "same")
        self.check("\n".join(lines + ["joint y y 1/2"]), 5, 9, "same")
        self.check("\n".join(["mesh b a"] + lines), 1, 8, "same")
        self.check("\n".join(lines + ["mesh a c", "joint x y 0", "mesh b c", "joint y x 0"]))

    def test_a_wheel_of_several_lines(self):
        # It is on the shaft of the first line that declares it.
        self.check("mesh a b\nwheel a x 1\nwheel b y 1\nwheel b x 1\ndrive x 1", 4, 7, "taken")
        self.check("mesh a b\nwheel a x 1\nwheel b x 1\nwheel b y 1\ndrive x 1", 1, 8, "same")
        self.check("wheel a x 1\nmesh a b\nwheel b x 1\nwheel b y 1\ndrive x 1", 2, 8, "same")

    def test_the_order_within_a_line(self):
        wheels = [f"wheel w{number} s{number} 10" for number in range(12)]
        links = ["mesh w0 w1"] * 12
        self.check("\n".join(wheels + links + ["mesh q r"]), 25, 1, "many")
        self.check("\n".join(wheels + links + ["mesh w0 w0"]), 25, 1, "many")
        self.check("\n".join(wheels + ["wheel w0 s0 10"]), 13, 1, "many")
        dials = [f"dial d{number} s0 0 - -" for number in range(6)]
        self.check("\n".join(wheels + dials + ["dial d0 q 0 q q"]), 19, 1, "many")
        self.check("\n".join(wheels + dials[:5] + ["dial d0 q 0 q q"]), 18, 6, "taken")
        self.check("\n".join(wheels + ["drive s0 1", "drive q 1"]), 14, 1, "many")
        self.check("wheel a x 1\nmesh q q", 2, 6, "unknown")
        self.check("wheel a x 1\njoint q q 0", 2, 7, "unknown")

    def test_the_order_of_the_lines(self):
        self.check("mesh a a\nwheel a x 1\nwheel a x 1", 1, 8, "same")
        self.check("wheel a x 1\nwheel a x 1\nmesh a a", 2, 7, "taken")

    def test_missing(self):
        self.check("wheel a x 1", 2, 1, "missing")
        self.check("wheel a x 1\n", 3, 1, "missing")
        self.check("wheel a x 1\n\n", 4, 1, "missing")
        self.check("wheel a x 1\n# drive x 1", 3, 1, "missing")
        self.check("mesh a b", 1, 6, "unknown")

    def test_seeded(self):
        """Texts with one or two changes: the errors are those of the document's words."""
        source = random.Random(3)
        reasons = {}
        plans = [plan_text(plan) for plan in seeded_plans(4, 40, 9)]
        words = ["-", "x", "s0", "w0", "t0", "c0", "0", "1/2", "2/4", "-1", "-0", "1001", "a", "dial", ""]
        for _ in range(3000):
            lines = source.choice(plans).split("\n")
            for _ in range(source.randint(0, 2)):
                self.change(lines, words, source)
            if source.random() < 0.3:
                source.shuffle(lines)
            text = "\n".join(lines)
            expected = slow_error(text)
            self.assertEqual(told_error(text), expected, text)
            reason = expected and expected[2]
            reasons[reason] = reasons.get(reason, 0) + 1
        for reason in (None, "space", "words", "word", "knots", "taken", "unknown", "same", "missing"):
            self.assertGreater(reasons.get(reason, 0), 10, reason)

    def change(self, lines, words, source):
        """Change one line, or one word of it."""
        at = source.randrange(len(lines))
        row = lines[at].split(" ")
        choice = source.randrange(6)
        if row[0] in ("mesh", "joint") and len(row) > 2 and choice < 3:
            lines[at] = " ".join(row[:2] + [row[1]] + row[3:])
            return
        if choice == 0:
            del lines[at]
            lines.append("")
        elif choice == 1:
            lines.insert(source.randrange(len(lines) + 1), lines[at])
        elif choice == 2:
            lines[at] += source.choice((" ", " x", " 0 1", "0"))
        elif choice == 3 and len(row) > 1:
            lines[at] = " ".join(row[:-1])
        else:
            row[source.randrange(len(row))] = source.choice(words)
            lines[at] = " ".join(row)


class ReadAndWriteTest(ReaderCase):
    def test_example(self):
        text = plan_text(PLAN)
        self.assertEqual(read_plan(text), PLAN)
        self.assertEqual(plan_text(read_plan(text)), text)

    def test_seeded(self):
        for top in (3, 40, 10 ** 40 - 1):
            for plan in seeded_plans(5, 60, top):
                text = plan_text(plan)
                again = read_plan(text)
                self.assert_true(again == plan)
                self.assertEqual(plan_text(again), text)
                self.assertLess(len(text), 20000)

    def test_the_longest(self):
        """8 cycles, 6 slots of 8 knots, 12 wheels, 12 links, 6 dials, and 40 digits throughout."""
        top = int(NINES)
        names = [f"abcdefghij{number}" for number in range(10, 22)]
        cycles = [(name, Cycle(f(-top, top - 1), f(top - 8 - at, top))) for at, name in enumerate(names[:8])]
        knots = [(f(at * (top // 8), top), f(-top, top - 1)) for at in range(8)]
        wheels = [(name, name, 1000) for name in names]
        links = [("joint", names[at], names[at + 1], f(top, top - 1)) for at in range(11)]
        work = Work(wheels, links + [("mesh", names[11], names[0])], driver=names[5])
        dials = [(name, name, f(top - 1, top), name, name) for name in names[:6]]
        plan = Plan(Sky(cycles), [(name, Slot(knots)) for name in names[:6]], work, dials, pace=f(-top, top - 1))
        text = plan_text(plan)
        self.assert_true(read_plan(text) == plan)
        self.assertTrue(5000 < len(text) < 20000)

    def test_equal_texts(self):
        """Another order of the kinds, remarks, empty lines and fractions not in lowest terms."""
        source = random.Random(6)
        for plan in seeded_plans(7, 60, 12):
            lines = plan_text(plan)[:-1].split("\n")
            by_kind = {}
            for line in lines:
                kind = line.split(" ")[0]
                by_kind.setdefault({"joint": "mesh"}.get(kind, kind), []).append(self.widened(line, source))
            mixed = []
            while any(by_kind.values()):
                mixed.append(by_kind[source.choice([kind for kind in by_kind if by_kind[kind]])].pop(0))
                mixed += source.choice(([], [""], ["# so"], ["#", ""]))
            again = read_plan("\n".join(mixed) + source.choice(("", "\n")))
            self.assert_true(again == plan)
            self.assertEqual(plan_text(again), plan_text(plan))

    def widened(self, line, source):
        """Return the line with its fractions, but for teeth, multiplied above and below."""
        words = line.split(" ")
        for at, word in enumerate(words):
            if words[0] != "wheel" and FRACTION.match(word):
                above, _, below = word.partition("/")
                by = source.randint(1, 9)
                words[at] = f"{int(above) * by}/{int(below or 1) * by}"
        return " ".join(words)

    def test_no_shared_lists(self):
        text = plan_text(PLAN)
        plan = read_plan(text)
        plan.dials.clear()
        plan.slots.clear()
        plan.work.wheels.clear()
        self.assertEqual(plan_text(plan), text)
        self.assert_true(read_plan(text) == plan)

    def test_forms(self):
        for text in odd_values() + [b"", ["drive x 1"], PLAN]:
            if not isinstance(text, str):
                self.assert_bad("text", read_plan, text)
