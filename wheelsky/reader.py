"""Reading plans that are written in their language."""

from wheelsky.cycles import Cycle
from wheelsky.errors import ReadError
from wheelsky.forms import DIGITS, is_name, require
from wheelsky.plans import NOTHING, Plan
from wheelsky.ratios import ZERO, compare, fraction, is_place
from wheelsky.shafts import Work, is_play, is_teeth
from wheelsky.skies import Sky
from wheelsky.slots import MOST_KNOTS, Slot

MOST_DIGITS = 40
# What each word after a command is: a new name, a number of some form, or the name of
# a thing that the text must declare. A slot has one or more knots.
FORMS = {
    "cycle": ("new", "fraction", "place"),
    "slot": ("new", "place", "fraction"),
    "wheel": ("new", "new", "teeth"),
    "mesh": ("wheel", "wheel"),
    "joint": ("shaft", "shaft", "play"),
    "drive": ("shaft", "fraction"),
    "dial": ("new", "shaft", "place", "slot", "cycle"),
}
KNOT = ("place", "fraction")
# How many lines of each kind there may be; meshes and joints are counted together.
LIMITS = {"cycle": 8, "slot": 6, "wheel": 12, "link": 12, "drive": 1, "dial": 6}


def fraction_of(word):
    """Return the fraction that is written as this word, or None if it is no fraction word."""
    require(isinstance(word, str), "word")
    above, slash, below = word.partition("/")
    if not _is_integer_word(above):
        return None
    if slash == "":
        return fraction(int(above))
    return fraction(int(above), int(below)) if _is_count_word(below) else None


def read_plan(text):
    """Return the plan that the text describes."""
    require(isinstance(text, str), "text")
    lines = text.split("\n")
    rows = []
    for number, line in enumerate(lines, start=1):
        if line != "" and line[0] != "#":
            rows.append((number, _words_of(number, line)))
    _check_all(rows, len(lines))
    return _plan_of([words for _, words in rows])


def _is_integer_word(word):
    return word == "0" or _is_count_word(word.removeprefix("-"))


def _is_count_word(word):
    if not 1 <= len(word) <= MOST_DIGITS or word[0] == "0":
        return False
    return all([sign in DIGITS for sign in word])


def _words_of(number, line):
    """Return the words of a line, or raise the first error that the line alone shows."""
    column = _column_of_space(line)
    if column is not None:
        raise ReadError(number, column, "space")
    words = line.split(" ")
    if words[0] not in FORMS:
        raise ReadError(number, 1, "command")
    forms = _forms_of(words)
    if len(words) > len(forms):
        raise ReadError(number, _column(words, len(forms)), "words")
    if len(words) < len(forms):
        raise ReadError(number, len(line) + 1, "words")
    for index in range(1, len(words)):
        if not _has_form(words[index], forms[index]):
            raise ReadError(number, _column(words, index), "word")
    if words[0] == "slot":
        _check_knots(number, words)
    return words


def _column_of_space(line):
    """Return the column of the first space that stands where none may, or None."""
    for column, sign in enumerate(line, start=1):
        if sign == " " and (column == 1 or column == len(line) or line[column - 2] == " "):
            return column
    return None


def _column(words, index):
    """Return the column of the word with this index in its line."""
    return 1 + sum([len(word) + 1 for word in words[:index]])


def _forms_of(words):
    """Return the forms of the words of a line, the command included."""
    forms = ("command",) + FORMS[words[0]]
    if words[0] != "slot":
        return forms
    # One knot at least, and not more words than for the most knots.
    while len(forms) < len(words) and len(forms) < 2 + 2 * MOST_KNOTS:
        forms = forms + KNOT
    return forms


def _has_form(word, form):
    if form == "new" or form == "wheel" or form == "shaft":
        return is_name(word)
    if form == "slot" or form == "cycle":
        return word == NOTHING or is_name(word)
    value = fraction_of(word)
    if value is None:
        return False
    if form == "place":
        return is_place(value)
    if form == "play":
        return is_play(value)
    return form == "fraction" or (_is_integer_word(word) and is_teeth(value[0]))


def _check_knots(number, words):
    """Raise the error for knots that do not begin at 0 or do not ascend."""
    before = None
    for index in range(2, len(words), 2):
        place = fraction_of(words[index])
        fits = place == ZERO if before is None else compare(before, place) < 0
        if not fits:
            raise ReadError(number, _column(words, index), "knots")
        before = place


def _check_all(rows, many):
    """Raise the first error that the lines, `many` in number, show together."""
    declared = _declared([words for _, words in rows])
    earlier = []
    for number, words in rows:
        found = _error_among(words, earlier, declared)
        if found is not None:
            raise ReadError(number, found[0], found[1])
        earlier.append(words)
    if "drive" not in [words[0] for words in earlier]:
        raise ReadError(many + 1, 1, "missing")


def _declared(rows):
    """Return for each kind of thing a dict of the names that lines declare."""
    declared = {"wheel": {}, "shaft": {}, "slot": {}, "cycle": {}}
    for words in rows:
        if words[0] == "wheel":
            # If several lines declare a wheel, it is on the shaft of the first one.
            declared["wheel"].setdefault(words[1], words[2])
            declared["shaft"][words[2]] = True
        elif words[0] in declared:
            declared[words[0]][words[1]] = True
    return declared


def _error_among(words, earlier, declared):
    """Return the column and the reason of the first error of a line among the others, or None."""
    kind = _kind_of(words)
    if len([row for row in earlier if _kind_of(row) == kind]) >= LIMITS[kind]:
        return (1, "many")
    forms = FORMS[words[0]]
    if forms[0] == "new" and words[:2] in [row[:2] for row in earlier]:
        return (_column(words, 1), "taken")
    for index, form in enumerate(forms, start=1):
        if form in declared and words[index] != NOTHING and words[index] not in declared[form]:
            return (_column(words, index), "unknown")
    if kind == "link" and _joins_itself(words, declared["wheel"]):
        return (_column(words, 2), "same")
    return None


def _kind_of(words):
    return "link" if words[0] in ("mesh", "joint") else words[0]


def _joins_itself(words, shaft_of_wheel):
    if words[0] == "mesh":
        return shaft_of_wheel[words[1]] == shaft_of_wheel[words[2]]
    return words[1] == words[2]


def _plan_of(rows):
    """Return the plan that lines without an error describe."""
    cycles = [(row[1], Cycle(fraction_of(row[2]), fraction_of(row[3]))) for row in _with_command(rows, "cycle")]
    slots = [(row[1], Slot(_knots_of(row))) for row in _with_command(rows, "slot")]
    wheels = [(row[1], row[2], int(row[3])) for row in _with_command(rows, "wheel")]
    links = [_link_of(row) for row in rows if _kind_of(row) == "link"]
    dials = [_dial_of(row) for row in _with_command(rows, "dial")]
    drive = _with_command(rows, "drive")[0]
    work = Work(wheels, links, driver=drive[1])
    return Plan(Sky(cycles), slots, work, dials, pace=fraction_of(drive[2]))


def _with_command(rows, command):
    return [words for words in rows if words[0] == command]


def _knots_of(words):
    return [(fraction_of(place), fraction_of(lift)) for place, lift in zip(words[2::2], words[3::2])]


def _link_of(words):
    if words[0] == "mesh":
        return ("mesh", words[1], words[2])
    return ("joint", words[1], words[2], fraction_of(words[3]))


def _dial_of(words):
    return (words[1], words[2], fraction_of(words[3]), _name_of(words[4]), _name_of(words[5]))


def _name_of(word):
    return None if word == NOTHING else word
