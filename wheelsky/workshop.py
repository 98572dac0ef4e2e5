"""Workshops: works that change by deeds, which can be taken back."""

from wheelsky.deeds import NOTHING_YET, amount_in, is_deed, require_arguments, state_after
from wheelsky.errors import NoName, TooMany
from wheelsky.forms import is_list_within, is_name, require
from wheelsky.shafts import Work

MOST_DEEDS = 60


class Workshop:
    """Wheels, links and shafts with amounts; `looks` is the number of looks that were made."""

    def __init__(self):
        self.looks = 0
        # Pairs of a deed in force and the state behind it; the same of the deeds taken back.
        self._done = []
        self._undone = []

    def add_wheel(self, wheel, shaft, teeth):
        """Put a new wheel on a shaft, which may be new too."""
        self._do(("wheel", wheel, shaft, teeth))

    def add_mesh(self, first, second):
        """Mesh two wheels."""
        self._do(("mesh", first, second))

    def add_joint(self, first, second, play):
        """Join two shafts with some play."""
        self._do(("joint", first, second, play))

    def drop_link(self, number):
        """Take a link away; the links behind it move down by one number."""
        self._do(("drop", number))

    def recut(self, wheel, teeth):
        """Give a wheel another number of teeth."""
        self._do(("recut", wheel, teeth))

    def break_mesh(self, number):
        """Break a mesh, so that it passes no movement."""
        self._do(("break", number))

    def mend_mesh(self, number):
        """Make a mesh whole again."""
        self._do(("mend", number))

    def turn(self, shaft, by):
        """Turn a shaft by hand."""
        self._do(("turn", shaft, by))

    def undo(self):
        """Take the last deed in force back and return its record, or None."""
        if not self._done:
            return None
        taken = self._done.pop()
        self._undone.append(taken)
        return taken[0]

    def redo(self):
        """Do the deed that was taken back last once more and return its record, or None."""
        if not self._undone:
            return None
        taken = self._undone.pop()
        self._done.append(taken)
        return taken[0]

    def records(self):
        """Return the records of the deeds in force."""
        return [deed for deed, _ in self._done]

    def state(self):
        """Return the wheels, the links with what holds them, and the amounts: three lists."""
        wheels, links, amounts = self._state()
        return (list(wheels), list(links), list(amounts))

    def amount(self, shaft):
        """Return the turns that the shaft has made, without a look."""
        require(is_name(shaft), "shaft")
        return amount_in(self._state(), shaft)

    def look(self, shaft):
        """Return the turns that the shaft has made, and count a look."""
        amount = self.amount(shaft)
        self.looks = self.looks + 1
        return amount

    def as_work(self, driver):
        """Return the work of the wheels and links as they are now, with this driver."""
        require(is_name(driver), "driver")
        wheels, links, amounts = self._state()
        if driver not in [shaft for shaft, _ in amounts]:
            raise NoName(driver)
        return Work(list(wheels), [link for link, _ in links], driver=driver)

    def _state(self):
        return self._done[-1][1] if self._done else NOTHING_YET

    def _do(self, deed):
        require_arguments(deed)
        if len(self._done) >= MOST_DEEDS:
            raise TooMany(MOST_DEEDS)
        self._done.append((deed, state_after(self._state(), deed)))
        self._undone = []


def built(work):
    """Return a new workshop with the wheels and then the links of the work."""
    require(isinstance(work, Work), "work")
    return replay([("wheel", wheel, shaft, teeth) for wheel, shaft, teeth in work.wheels] + work.links)


def replay(records):
    """Return a new workshop in which these deeds were done in order."""
    require(is_list_within(records, 0, MOST_DEEDS) and all([is_deed(deed) for deed in records]), "records")
    shop = Workshop()
    for deed in records:
        shop._do(deed)
    return shop
