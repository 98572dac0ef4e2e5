"""Plans: a sky, the work that shows it, and the dials that its shafts drive."""

from wheelsky.cycles import Cycle
from wheelsky.errors import NoName
from wheelsky.forms import is_list_within, is_name, is_tuple_of, refuse_repeated, require
from wheelsky.motions import Motion
from wheelsky.ratios import ONE, ZERO, is_fraction, is_place, times
from wheelsky.shafts import Work
from wheelsky.skies import Sky
from wheelsky.slots import Slot, even_slot

MOST_SLOTS = 6
MOST_DIALS = 6
NOTHING = "-"


class Plan:
    """A sky, slots (name, slot), a work, dials (name, shaft, start, slot, cycle), and the pace of the driver."""

    def __init__(self, sky, slots, work, dials, *, pace=(1, 1)):
        require(isinstance(sky, Sky), "sky")
        require(_are_slots(slots), "slots")
        require(isinstance(work, Work), "work")
        require(_are_dials(dials), "dials")
        require(is_fraction(pace), "pace")
        refuse_repeated([name for name, _ in slots])
        refuse_repeated([dial[0] for dial in dials])
        for _, shaft, _, slot, cycle in dials:
            _refuse_unknown(shaft, work.shafts())
            _refuse_unknown(slot, [name for name, _ in slots])
            _refuse_unknown(cycle, sky.names)
        self.sky = sky
        self._slots = tuple(slots)
        self.work = work
        self._dials = tuple(dials)
        self.pace = pace

    @property
    def slots(self):
        """The slots in order, a new list."""
        return list(self._slots)

    @property
    def dials(self):
        """The dials in order, a new list."""
        return list(self._dials)

    def __eq__(self, other):
        return (
            isinstance(other, Plan)
            and self.sky == other.sky
            and self._slots == other._slots
            and self.work == other.work
            and self._dials == other._dials
            and self.pace == other.pace
        )

    def pointer(self, dial):
        """Return the motion of the pointer of the dial with this name."""
        _, shaft, start, _, _ = dial_called(self, dial)
        rate = self.work.shaft_rate(shaft)
        if rate is None:
            rate = ZERO
        return Motion([(ONE, Cycle(times(rate, self.pace), start), slot_of(self, dial))])


def dial_called(plan, dial):
    """Return the dial of the plan with this name."""
    require(is_name(dial), "dial")
    for row in plan.dials:
        if row[0] == dial:
            return row
    raise NoName(dial)


def slot_of(plan, dial):
    """Return the slot of the dial with this name, an even one if it names none."""
    name = dial_called(plan, dial)[3]
    for known, slot in plan.slots:
        if known == name:
            return slot
    return even_slot()


def fraction_word(value):
    """Return how a fraction is written."""
    require(is_fraction(value), "value")
    numerator, denominator = value
    return str(numerator) if denominator == 1 else f"{numerator}/{denominator}"


def plan_text(plan):
    """Return the text of a plan, one line for each of its parts."""
    require(isinstance(plan, Plan), "plan")
    rows = [["cycle", name, fraction_word(cycle.rate), fraction_word(cycle.start)] for name, cycle in plan.sky]
    rows = rows + [["slot", name] + _knot_words(slot) for name, slot in plan.slots]
    rows = rows + [["wheel", wheel, shaft, str(teeth)] for wheel, shaft, teeth in plan.work.wheels]
    rows = rows + [_link_words(link) for link in plan.work.links]
    rows = rows + [["drive", plan.work.driver, fraction_word(plan.pace)]]
    rows = rows + [_dial_words(dial) for dial in plan.dials]
    return "".join([" ".join(row) + "\n" for row in rows])


def _are_slots(value):
    return is_list_within(value, 0, MOST_SLOTS) and all([_is_slot_row(row) for row in value])


def _is_slot_row(value):
    return is_tuple_of(value, 2) and is_name(value[0]) and isinstance(value[1], Slot)


def _are_dials(value):
    return is_list_within(value, 0, MOST_DIALS) and all([_is_dial(dial) for dial in value])


def _is_dial(value):
    if not is_tuple_of(value, 5):
        return False
    name, shaft, start, slot, cycle = value
    return is_name(name) and is_name(shaft) and is_place(start) and _may_name(slot) and _may_name(cycle)


def _may_name(value):
    return value is None or is_name(value)


def _refuse_unknown(name, names):
    if name is not None and name not in names:
        raise NoName(name)


def _knot_words(slot):
    words = []
    for place, lift in slot.knots:
        words.extend([fraction_word(place), fraction_word(lift)])
    return words


def _link_words(link):
    if link[0] == "mesh":
        return list(link)
    return list(link[:3]) + [fraction_word(link[3])]


def _dial_words(dial):
    name, shaft, start, slot, cycle = dial
    return ["dial", name, shaft, fraction_word(start), _word_of(slot), _word_of(cycle)]


def _word_of(name):
    return NOTHING if name is None else name
