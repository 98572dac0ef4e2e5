"""The deeds of a workshop: the forms of their records, and the states to which they lead.

A state is a tuple (wheels, links, amounts) of three tuples: of rows (wheel, shaft, teeth),
of pairs (link, held), where `held` is the slack of a joint or tells whether a mesh is whole,
and of pairs (shaft, amount).
"""

from wheelsky.errors import Looped, Mismatch, NoName, Taken, TooMany
from wheelsky.forms import is_name, is_whole, require
from wheelsky.ratios import ZERO, compare, is_fraction, minus, negated, over, plus, times
from wheelsky.shafts import MOST_WHEELS, is_play, is_teeth, leg_of, wheel_called

NOTHING_YET = ((), (), ())
# For each deed the names of its arguments and their forms, in order.
ARGUMENTS = {
    "wheel": (("wheel", "name"), ("shaft", "name"), ("teeth", "teeth")),
    "mesh": (("first", "name"), ("second", "name")),
    "joint": (("first", "name"), ("second", "name"), ("play", "play")),
    "drop": (("number", "number"),),
    "recut": (("wheel", "name"), ("teeth", "teeth")),
    "break": (("number", "number"),),
    "mend": (("number", "number"),),
    "turn": (("shaft", "name"), ("by", "fraction")),
}


def require_arguments(deed):
    """Raise BadValue for the first argument of a deed that does not have its form."""
    for (what, form), value in zip(ARGUMENTS[deed[0]], deed[1:]):
        require(_has_form(value, form), what)


def is_deed(value):
    """Tell whether the value is the record of a deed."""
    if not isinstance(value, tuple) or len(value) == 0:
        return False
    if not isinstance(value[0], str) or value[0] not in ARGUMENTS:
        return False
    forms = [form for _, form in ARGUMENTS[value[0]]]
    if len(value) != len(forms) + 1:
        return False
    return all([_has_form(item, form) for item, form in zip(value[1:], forms)])


def amount_in(state, shaft):
    """Return the amount of the shaft with this name."""
    for known, amount in state[2]:
        if known == shaft:
            return amount
    raise NoName(shaft)


def state_after(state, deed):
    """Return the state to which the deed leads, or raise the error that it raises."""
    after = AFTER[deed[0]]
    return after(state, deed)


def _has_form(value, form):
    if form == "name":
        return is_name(value)
    if form == "teeth":
        return is_teeth(value)
    if form == "play":
        return is_play(value)
    if form == "number":
        return is_whole(value) and value >= 0
    return is_fraction(value)


def _after_wheel(state, deed):
    _, wheel, shaft, teeth = deed
    wheels, links, amounts = state
    if wheel in [row[0] for row in wheels]:
        raise Taken(wheel)
    if len(wheels) >= MOST_WHEELS:
        raise TooMany(MOST_WHEELS)
    if shaft not in [known for known, _ in amounts]:
        amounts = amounts + ((shaft, ZERO),)
    return (wheels + ((wheel, shaft, teeth),), links, amounts)


def _after_mesh(state, deed):
    return _with_link(state, deed, True)


def _after_joint(state, deed):
    return _with_link(state, deed, ZERO)


def _with_link(state, link, held):
    wheels, links, amounts = state
    begin, end, _ = leg_of(link, wheels)
    if end in [far for _, _, _, far in _steps_outwards(_legs(state), begin)]:
        raise Looped()
    return (wheels, links + ((link, held),), amounts)


def _after_drop(state, deed):
    wheels, links, amounts = state
    number = deed[1]
    if number >= len(links):
        raise Mismatch()
    return (wheels, links[:number] + links[number + 1:], amounts)


def _after_recut(state, deed):
    _, wheel, teeth = deed
    wheels, links, amounts = state
    _, shaft, _ = wheel_called(wheel, wheels)
    recut = tuple([(wheel, shaft, teeth) if row[0] == wheel else row for row in wheels])
    return (recut, links, amounts)


def _after_break(state, deed):
    return _with_mesh(state, deed[1], False)


def _after_mend(state, deed):
    return _with_mesh(state, deed[1], True)


def _with_mesh(state, number, whole):
    wheels, links, amounts = state
    if number >= len(links) or links[number][0][0] != "mesh":
        raise Mismatch()
    return (wheels, links[:number] + ((links[number][0], whole),) + links[number + 1:], amounts)


def _after_turn(state, deed):
    _, shaft, by = deed
    wheels, links, amounts = state
    if shaft not in [known for known, _ in amounts]:
        raise NoName(shaft)
    legs = _legs(state)
    moved = {shaft: by}
    after = list(links)
    for number, way, near, far in _steps_outwards(legs, shaft):
        by_far, held = _passed_on(links[number], legs[number][2], way, moved[near])
        moved[far] = by_far
        after[number] = (links[number][0], held)
    return (wheels, tuple(after), tuple([(known, plus(amount, moved.get(known, ZERO))) for known, amount in amounts]))


def _legs(state):
    """Return for each link its two shafts and the factor from the first to the second."""
    return [leg_of(link, state[0]) for link, _ in state[1]]


def _steps_outwards(legs, shaft):
    """Return the steps (number, way, near, far) that lead away from a shaft, near ones first."""
    found = []
    passed = {}
    waiting = [shaft]
    while waiting:
        near = waiting.pop(0)
        for number, (begin, end, _) in enumerate(legs):
            if number not in passed and near in (begin, end):
                passed[number] = True
                way = 1 if near == begin else -1
                far = end if near == begin else begin
                found.append((number, way, near, far))
                waiting.append(far)
    return found


def _passed_on(link_held, factor, way, by):
    """Return how far a step moves the far shaft, and how the link is held then."""
    link, held = link_held
    if link[0] == "joint":
        return _passed_by_joint(held, link[3], way, by)
    if not held:
        return (ZERO, held)
    return (times(by, factor) if way == 1 else over(by, factor), held)


def _passed_by_joint(slack, play, way, by):
    # What does not fit into the play is what the far shaft gives way by, forward or back.
    strained = plus(slack, by) if way == 1 else minus(slack, by)
    over_much = _beyond(strained, play)
    return (over_much if way == 1 else negated(over_much), minus(strained, over_much))


def _beyond(slack, play):
    """Return by how much the slack is more than the play or, as a negative fraction, less than 0."""
    if compare(slack, play) > 0:
        return minus(slack, play)
    return slack if slack[0] < 0 else ZERO


AFTER = {
    "wheel": _after_wheel,
    "mesh": _after_mesh,
    "joint": _after_joint,
    "drop": _after_drop,
    "recut": _after_recut,
    "break": _after_break,
    "mend": _after_mend,
    "turn": _after_turn,
}
