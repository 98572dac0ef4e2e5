"""Moments at which several cycles are at the same place."""

from math import gcd

from wheelsky.cycles import Cycle
from wheelsky.errors import Endless
from wheelsky.forms import require
from wheelsky.ratios import ONE, ZERO, compare, floor_of, fraction, is_fraction, is_weights
from wheelsky.ratios import measure_paper, minus, negated, over, part_of, times, weighted_sum
from wheelsky.spacing import all_within, first_from
from wheelsky.spans import Span

FEWEST_CYCLES = 2
MOST_CYCLES = 6


def meeting_rule(cycles):
    """Return None for never, ((0, 1), None) for always, otherwise (first, interval)."""
    paper = meeting_paper(cycles)
    if paper[0] == "never":
        return None
    if paper[0] == "always":
        return (ZERO, None)
    return (paper[1], paper[2])


def meeting_paper(cycles):
    """Return a meeting certificate of the cycles."""
    require(is_meeting_list(cycles), "cycles")
    # Seen from the first cycle, a meeting is a moment at which all turns are integers.
    rates = _rates_against_first(cycles)
    starts = [minus(cycle.start, cycles[0].start) for cycle in cycles]
    measure, weights = measure_paper(rates)
    joint_start = weighted_sum(weights, starts)
    turns = _turns_in_joint_turn(rates, measure)
    for index, start in enumerate(starts):
        # What is left has the rate 0, so no moment changes it.
        left = minus(start, times(fraction(turns[index]), joint_start))
        if left[1] != 1:
            return ("never", _refusal(weights, turns, index))
    if measure == ZERO:
        return ("always",)
    first = over(part_of(negated(joint_start)), measure)
    return ("every", first, over(ONE, measure), turns)


def is_meeting_paper(cycles, paper):
    """Judge whether the paper is a meeting certificate of the cycles."""
    require(is_meeting_list(cycles), "cycles")
    if not isinstance(paper, tuple) or len(paper) == 0:
        return False
    if paper[0] == "always":
        return len(paper) == 1 and all([cycle == cycles[0] for cycle in cycles])
    if paper[0] == "never":
        return len(paper) == 2 and _shows_never(cycles, paper[1])
    if paper[0] == "every":
        return len(paper) == 4 and _shows_every(cycles, paper[1], paper[2], paper[3])
    return False


def meetings(cycles, span):
    """Return all moments of the span, at most 400, at which the cycles meet."""
    require(is_meeting_list(cycles), "cycles")
    require(isinstance(span, Span), "span")
    rule = meeting_rule(cycles)
    if rule is None:
        return []
    first, interval = rule
    if interval is None:
        raise Endless()
    return all_within(first, interval, span)


def next_meeting(cycles, moment):
    """Return the first moment, not before `moment`, at which the cycles meet, or None."""
    require(is_meeting_list(cycles), "cycles")
    require(is_fraction(moment), "moment")
    rule = meeting_rule(cycles)
    if rule is None:
        return None
    first, interval = rule
    if interval is None:
        return moment
    return first_from(first, interval, moment)


def meeting_witness(cycles, moment):
    """Return the common place and the floors of the turns at a meeting, or None."""
    require(is_meeting_list(cycles), "cycles")
    require(is_fraction(moment), "moment")
    if not _meet_at(cycles, moment):
        return None
    counts = [floor_of(cycle.turns(moment)) for cycle in cycles]
    return (cycles[0].place(moment), tuple(counts))


def is_meeting_list(value):
    """Tell whether the value is a meeting list: 2 to 6 cycles."""
    if not isinstance(value, list) or not FEWEST_CYCLES <= len(value) <= MOST_CYCLES:
        return False
    return all([isinstance(cycle, Cycle) for cycle in value])


def _meet_at(cycles, moment):
    place = cycles[0].place(moment)
    return all([cycle.place(moment) == place for cycle in cycles])


def _rates_against_first(cycles):
    return [minus(cycle.rate, cycles[0].rate) for cycle in cycles]


def _turns_in_joint_turn(rates, measure):
    """Return the turns of each rate while the measure of all rates makes one turn."""
    if measure == ZERO:
        return tuple([0 for _ in rates])
    return tuple([over(rate, measure)[0] for rate in rates])


def _refusal(weights, turns, index):
    """Return the weights that count cycle `index` less its share of the joint turn."""
    refusal = [-turns[index] * weight for weight in weights]
    refusal[index] = refusal[index] + 1
    # The first cycle counts nothing against itself, so its weight is free to make the sum 0.
    refusal[0] = -sum(refusal[1:])
    return tuple(refusal)


def _shows_never(cycles, weights):
    if not is_weights(weights, len(cycles)) or sum(weights) != 0:
        return False
    if weighted_sum(weights, [cycle.rate for cycle in cycles]) != ZERO:
        return False
    return weighted_sum(weights, [cycle.start for cycle in cycles])[1] != 1


def _shows_every(cycles, first, interval, turns):
    if not is_fraction(first) or not is_fraction(interval):
        return False
    if first[0] < 0 or compare(first, interval) >= 0 or not _meet_at(cycles, first):
        return False
    if not is_weights(turns, len(cycles)) or _common_divisor(turns) != 1:
        return False
    made = [times(rate, interval) for rate in _rates_against_first(cycles)]
    return made == [fraction(turn) for turn in turns]


def _common_divisor(turns):
    divisor = 0
    for turn in turns:
        divisor = gcd(divisor, turn)
    return divisor
