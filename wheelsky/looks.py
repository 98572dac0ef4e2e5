"""Looks at dials that tell which one of several suspects is guilty."""

from wheelsky.errors import Mismatch
from wheelsky.forms import is_list_within, is_tuple_of, is_whole, is_whole_within, require

MOST_SUSPECTS = 8
MOST_DIALS = 8
MOST_LOOKS = 8
MOST_ROWS = 300


def look_classes(suspects, dials):
    """Return the classes of suspects that no dial parts, in the order of their first items."""
    _require_forms(suspects, dials)
    _refuse_strangers(suspects, dials)
    found = {}
    for suspect in range(suspects):
        telling = tuple([number for number, dial in enumerate(dials) if suspect in dial])
        found.setdefault(telling, []).append(suspect)
    return [tuple(group) for group in found.values()]


def fewest_looks(suspects, dials):
    """Return the least depth of a look plan for all suspects."""
    return needs_paper(suspects, dials)[-1][1]


def look_plan(suspects, dials):
    """Return a look plan for all suspects that has the least depth."""
    _require_forms(suspects, dials)
    _refuse_strangers(suspects, dials)
    return _plan_for(_all_of(suspects), dials, _needs(suspects, dials))


def is_look_plan(suspects, dials, plan, *, looks):
    """Judge whether the plan is a look plan for all suspects with a depth of at most `looks`."""
    _require_forms(suspects, dials)
    require(is_whole_within(looks, 0, MOST_LOOKS), "looks")
    _refuse_strangers(suspects, dials)
    return _is_plan_for(_all_of(suspects), dials, plan, looks)


def needs_paper(suspects, dials):
    """Return a needs certificate whose last row has the fewest looks."""
    _require_forms(suspects, dials)
    _refuse_strangers(suspects, dials)
    return list(_needs(suspects, dials).items())


def is_needs_paper(suspects, dials, paper, *, looks):
    """Judge whether the paper is a needs certificate whose last row has the need `looks`."""
    _require_forms(suspects, dials)
    require(is_whole_within(looks, 0, MOST_LOOKS), "looks")
    _refuse_strangers(suspects, dials)
    if not is_list_within(paper, 1, MOST_ROWS) or not all([_is_row(row, suspects) for row in paper]):
        return False
    shown = {}
    for group, need in paper:
        if need > 0 and not _is_borne_out(group, need, dials, shown):
            return False
        shown[group] = max(need, shown.get(group, 0))
    return paper[-1] == (_all_of(suspects), looks)


def _require_forms(suspects, dials):
    require(is_whole_within(suspects, 1, MOST_SUSPECTS), "suspects")
    require(is_list_within(dials, 0, MOST_DIALS) and all([_is_dial(dial) for dial in dials]), "dials")


def _refuse_strangers(suspects, dials):
    """Raise Mismatch if a dial has a suspect that does not exist."""
    if any([suspect >= suspects for dial in dials for suspect in dial]):
        raise Mismatch()


def _is_dial(value):
    return _is_ascending(value, MOST_SUSPECTS)


def _is_ascending(value, many):
    """Tell whether the value is an ascending tuple of different suspects, of which there are so many."""
    if not isinstance(value, tuple) or not all([is_whole_within(item, 0, many - 1) for item in value]):
        return False
    return all([item < after for item, after in zip(value, value[1:])])


def _all_of(suspects):
    return tuple(range(suspects))


def _partings(group, dials):
    """Return a row (dial, those in its tuple, the others) for each dial that parts the group."""
    found = []
    for number, dial in enumerate(dials):
        wrong = tuple([suspect for suspect in group if suspect in dial])
        right = tuple([suspect for suspect in group if suspect not in dial])
        if wrong and right:
            found.append((number, wrong, right))
    return found


def _needs(suspects, dials):
    """Return a dict of the least depths for all suspects and the parts that looks may leave of them.

    The parts of each group stand before it, so all suspects stand last.
    """
    needs = {}
    _enter_need(_all_of(suspects), dials, needs)
    return needs


def _enter_need(group, dials, needs):
    if group in needs:
        return
    depths = []
    for _, wrong, right in _partings(group, dials):
        _enter_need(wrong, dials, needs)
        _enter_need(right, dials, needs)
        depths.append(1 + max(needs[wrong], needs[right]))
    needs[group] = min(depths) if depths else 0


def _plan_for(group, dials, needs):
    for number, wrong, right in _partings(group, dials):
        if 1 + max(needs[wrong], needs[right]) == needs[group]:
            return ("look", number, _plan_for(wrong, dials, needs), _plan_for(right, dials, needs))
    return ("blame", group)


def _is_plan_for(group, dials, plan, looks):
    """Tell whether the value is a look plan for the group with a depth of at most `looks`."""
    if is_tuple_of(plan, 2) and plan[0] == "blame":
        return _is_ascending(plan[1], MOST_SUSPECTS) and plan[1] == group and not _partings(group, dials)
    if not is_tuple_of(plan, 4) or plan[0] != "look" or looks == 0 or not is_whole(plan[1]):
        return False
    for number, wrong, right in _partings(group, dials):
        if number == plan[1]:
            return _is_plan_for(wrong, dials, plan[2], looks - 1) and _is_plan_for(right, dials, plan[3], looks - 1)
    return False


def _is_row(value, suspects):
    if not is_tuple_of(value, 2) or not is_whole(value[1]):
        return False
    return _is_ascending(value[0], suspects) and len(value[0]) >= 1 and value[1] >= 0


def _is_borne_out(group, need, dials, shown):
    """Tell whether some dial parts the group, and each that does leaves a part with a need of one less.

    `shown` has the greatest need of each group that earlier rows have; every other need is at least 0.
    """
    partings = _partings(group, dials)
    enough = [max(shown.get(wrong, 0), shown.get(right, 0)) >= need - 1 for _, wrong, right in partings]
    return len(partings) >= 1 and all(enough)
