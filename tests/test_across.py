"""Tests that lead through several files [17] [18] [20] [22]."""

import random

from tests.helpers import SkyCase, ends, f
from wheelsky.cycles import Cycle
from wheelsky.errors import Endless
from wheelsky.meetings import meetings, next_meeting
from wheelsky.nearness import near_spans
from wheelsky.skies import Sky
from wheelsky.spans import Span

SPAN = Span((-10, 1), (21, 2))


def seeded_skies(seed, many):
    """Return skies of 2 to 6 cycles that meet often."""
    source = random.Random(seed)
    skies = []
    for _ in range(many):
        rows = []
        for index in range(source.randint(2, 6)):
            rate = f(source.randint(-4, 4), source.choice((1, 2, 3)))
            rows.append((f"c{index}", Cycle(rate, f(source.randint(0, 2), source.choice((3, 3, 6))))))
        skies.append(Sky(rows))
    return skies


def cycles_of(sky):
    """Return the cycles of a sky in order."""
    return [cycle for _, cycle in sky]


class AcrossTest(SkyCase):
    def moments(self, cycles):
        """Return the meetings, or None if the cycles always meet."""
        try:
            return meetings(cycles, SPAN)
        except Endless:
            return None

    def test_meetings_as_seen_from_each_cycle(self):
        for sky in seeded_skies(1, 80):
            expected = self.moments(cycles_of(sky))
            for name in sky.names:
                self.assertEqual(self.moments(cycles_of(sky.seen_from(name))), expected)

    def test_meetings_are_common_visits(self):
        found = 0
        for sky in seeded_skies(2, 120):
            expected = self.moments(cycles_of(sky))
            if expected is None:
                continue
            for name in sky.names:
                moving = [cycle for cycle in cycles_of(sky.seen_from(name)) if cycle.period is not None]
                still = [cycle for cycle in cycles_of(sky.seen_from(name)) if cycle.period is None]
                visits = [cycle.visits((0, 1), SPAN) for cycle in moving]
                common = [moment for moment in visits[0] if all(moment in row for row in visits)] if visits else []
                if any(cycle.start != (0, 1) for cycle in still):
                    common = []
                self.assertEqual(common, expected)
                found += len(common)
        self.assertGreater(found, 100)

    def test_near_spans_of_width_zero_are_meetings(self):
        for sky in seeded_skies(3, 120):
            expected = self.moments(cycles_of(sky))
            rows = near_spans(cycles_of(sky), SPAN, width=(0, 1))
            if expected is None:
                self.assertEqual(rows, [SPAN])
            else:
                self.assertEqual(ends(rows), [(moment, moment) for moment in expected])

    def test_later_skies_meet_earlier(self):
        for sky in seeded_skies(4, 60):
            moment = next_meeting(cycles_of(sky), (7, 3))
            later = next_meeting(cycles_of(sky.later((7, 3))), (0, 1))
            self.assertEqual(later is None, moment is None)
            if moment is not None:
                self.assertEqual(moment, f(later[0] * 3 + 7 * later[1], 3 * later[1]))

    def test_all_places_come_again(self):
        for sky in seeded_skies(5, 60):
            period = sky.great_period()
            if period is not None:
                self.assertEqual(sky.later(period), sky)
                self.assertEqual(sky.places(period), sky.places((0, 1)))
