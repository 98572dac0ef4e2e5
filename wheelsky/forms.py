"""The simplest forms of arguments, and the error for an argument without its form."""

from wheelsky.errors import BadValue

LETTERS = "abcdefghijklmnopqrstuvwxyz"
DIGITS = "0123456789"
LONGEST_NAME = 12


def require(well_formed, what):
    """Raise BadValue for the parameter `what` unless it is well formed."""
    if not well_formed:
        raise BadValue(what)


def is_whole(value):
    """Tell whether the value is an integer; True and False are none."""
    return isinstance(value, int) and not isinstance(value, bool)


def is_whole_within(value, least, most):
    """Tell whether the value is an integer from `least` to `most`."""
    return is_whole(value) and least <= value <= most


def is_name(value):
    """Tell whether the value is a name."""
    if not isinstance(value, str) or not 1 <= len(value) <= LONGEST_NAME:
        return False
    return value[0] in LETTERS and all([sign in LETTERS + DIGITS for sign in value])
