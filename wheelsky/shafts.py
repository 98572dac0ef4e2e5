"""Works: wheels on shafts, joined by links and turned by one driver."""

from wheelsky.errors import Locked, Looped, Mismatch, NoName
from wheelsky.forms import is_list_within, is_name, is_tuple_of, is_whole, is_whole_within
from wheelsky.forms import refuse_repeated, require
from wheelsky.ratios import ONE, ZERO, fraction, is_fraction, magnitude, over, plus, times

MOST_WHEELS = 12
MOST_LINKS = 12
MOST_TEETH = 1000
LONGEST_LOOP = 24


class Work:
    """Wheels (wheel, shaft, teeth), links ("mesh" or "joint", ..), and the shaft that drives them."""

    def __init__(self, wheels, links, *, driver):
        require(_are_wheels(wheels), "wheels")
        require(_are_links(links), "links")
        require(is_name(driver), "driver")
        refuse_repeated([wheel for wheel, _, _ in wheels])
        # For each link: its first shaft, its second one, and the factor of the step ahead.
        self._legs = tuple([leg_of(link, wheels) for link in links])
        self._wheels = tuple(wheels)
        self._links = tuple(links)
        self.driver = driver
        _refuse_unknown(self, driver)

    @property
    def wheels(self):
        """The wheels in order, a new list."""
        return list(self._wheels)

    @property
    def links(self):
        """The links in order, a new list."""
        return list(self._links)

    def __eq__(self, other):
        return (
            isinstance(other, Work)
            and self._wheels == other._wheels
            and self._links == other._links
            and self.driver == other.driver
        )

    def shafts(self):
        """Return the names of the shafts in the order of their first wheels."""
        return _shafts_of(self._wheels)

    def path(self, shaft):
        """Return a path from the driver to the shaft, or None if the shaft is loose."""
        require(is_name(shaft), "shaft")
        _refuse_unknown(self, shaft)
        return _paths(self).get(shaft)

    def lock_loop(self):
        """Return a lock loop, or None if the work is not locked."""
        paths = _paths(self)
        for step in _steps(self):
            begin, end, _ = _leg(self, step)
            if begin in paths:
                loop = paths[begin] + [step] + _turned_back(paths[end])
                if _product(self, loop) != ONE:
                    return loop
        return None

    def shaft_rate(self, shaft):
        """Return the turns of the shaft for one turn of the driver, or None if it is loose."""
        path = self.path(shaft)
        refuse_locked(self)
        return None if path is None else _product(self, path)

    def ways(self):
        """Return for each shaft its name and 1, -1 or 0: ahead, back or loose."""
        return [(shaft, _way_of(self.shaft_rate(shaft))) for shaft in self.shafts()]

    def slack_bound(self, shaft):
        """Return how far the joints may hold the shaft from its rate, or None if it is loose."""
        path = self.path(shaft)
        if _is_looped(self):
            raise Looped()
        if path is None:
            return None
        bound = ZERO
        for step in path:
            bound = plus(times(bound, magnitude(_leg(self, step)[2])), _play_of(self._links[step[0]]))
        return bound


def step_factor(work, step):
    """Return the turns at the end of a step for one turn at its beginning."""
    require(isinstance(work, Work), "work")
    require(_is_step(step), "step")
    if not _is_step_in(work, step):
        raise Mismatch()
    return _leg(work, step)[2]


def is_path(work, shaft, path):
    """Judge whether the path leads from the driver of the work to the shaft."""
    require(isinstance(work, Work), "work")
    require(is_name(shaft), "shaft")
    _refuse_unknown(work, shaft)
    passed = _shafts_along(work, work.driver, path)
    if passed is None or passed[-1] != shaft:
        return False
    return len(set(passed)) == len(passed)


def is_lock_loop(work, loop):
    """Judge whether the loop is a lock loop of the work."""
    require(isinstance(work, Work), "work")
    if not is_list_within(loop, 1, LONGEST_LOOP) or not _is_step_in(work, loop[0]):
        return False
    first = _leg(work, loop[0])[0]
    passed = _shafts_along(work, first, loop)
    if passed is None or passed[-1] != first or first not in _paths(work):
        return False
    return _product(work, loop) != ONE


def is_teeth(value):
    """Tell whether the value is a number of teeth."""
    return is_whole_within(value, 1, MOST_TEETH)


def is_play(value):
    """Tell whether the value is a play: a fraction of 0 or more."""
    return is_fraction(value) and value[0] >= 0


def leg_of(link, wheels):
    """Return the two shafts that a link joins and the factor from the first to the second."""
    leg = _mesh_leg(link, wheels) if link[0] == "mesh" else _joint_leg(link, wheels)
    if leg[0] == leg[1]:
        raise Mismatch()
    return leg


def wheel_called(name, wheels):
    """Return the row of the wheel with this name."""
    for row in wheels:
        if row[0] == name:
            return row
    raise NoName(name)


def refuse_locked(work):
    """Raise Locked if the work is locked."""
    loop = work.lock_loop()
    if loop is not None:
        raise Locked(loop)


def _are_wheels(value):
    return is_list_within(value, 1, MOST_WHEELS) and all([_is_wheel(row) for row in value])


def _is_wheel(value):
    if not is_tuple_of(value, 3):
        return False
    return is_name(value[0]) and is_name(value[1]) and is_teeth(value[2])


def _are_links(value):
    return is_list_within(value, 0, MOST_LINKS) and all([_is_link(link) for link in value])


def _is_link(value):
    if is_tuple_of(value, 3) and value[0] == "mesh":
        return is_name(value[1]) and is_name(value[2])
    if is_tuple_of(value, 4) and value[0] == "joint":
        return is_name(value[1]) and is_name(value[2]) and is_play(value[3])
    return False


def _is_step(value):
    if not is_tuple_of(value, 2) or not is_whole(value[0]) or not is_whole(value[1]):
        return False
    return value[0] >= 0 and value[1] in (1, -1)


def _mesh_leg(link, wheels):
    _, begin, near_teeth = wheel_called(link[1], wheels)
    _, end, far_teeth = wheel_called(link[2], wheels)
    return (begin, end, fraction(-near_teeth, far_teeth))


def _joint_leg(link, wheels):
    _, begin, end, _ = link
    for shaft in (begin, end):
        if shaft not in _shafts_of(wheels):
            raise NoName(shaft)
    return (begin, end, ONE)


def _shafts_of(wheels):
    found = []
    for _, shaft, _ in wheels:
        if shaft not in found:
            found.append(shaft)
    return found


def _play_of(link):
    return link[3] if link[0] == "joint" else ZERO


def _way_of(rate):
    if rate is None:
        return 0
    return 1 if rate[0] > 0 else -1


def _steps(work):
    """Return all steps over the links of the work."""
    return [(number, way) for number in range(len(work.links)) for way in (1, -1)]


def _is_step_in(work, value):
    return _is_step(value) and value[0] < len(work.links)


def _leg(work, step):
    """Return the shafts at the beginning and at the end of a step, and its factor."""
    number, way = step
    begin, end, factor = work._legs[number]
    if way == 1:
        return (begin, end, factor)
    return (end, begin, over(ONE, factor))


def _turned_back(steps):
    return [(number, -way) for number, way in reversed(steps)]


def _product(work, steps):
    """Return the product of the factors of the steps."""
    product = ONE
    for step in steps:
        product = times(product, _leg(work, step)[2])
    return product


def _paths(work):
    """Return a dict with a path to each linked shaft."""
    paths = {work.driver: []}
    waiting = [work.driver]
    while waiting:
        shaft = waiting.pop(0)
        for step in _steps(work):
            begin, end, _ = _leg(work, step)
            if begin == shaft and end not in paths:
                paths[end] = paths[shaft] + [step]
                waiting.append(end)
    return paths


def _shafts_along(work, first, steps):
    """Return the shafts that steps from `first` pass, or None for what is no list of such steps."""
    if not isinstance(steps, list):
        return None
    passed = [first]
    for step in steps:
        if not _is_step_in(work, step):
            return None
        begin, end, _ = _leg(work, step)
        if begin != passed[-1]:
            return None
        passed.append(end)
    return passed


def _is_looped(work):
    """Tell whether there are as many links as shafts, or more, among the linked shafts."""
    paths = _paths(work)
    links = [leg for leg in work._legs if leg[0] in paths]
    return len(links) >= len(paths)


def _refuse_unknown(work, shaft):
    if shaft not in work.shafts():
        raise NoName(shaft)
