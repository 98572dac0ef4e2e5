"""The simplest forms of arguments, and the errors for arguments that do not have them."""

from wheelsky.errors import BadValue, Taken

LETTERS = "abcdefghijklmnopqrstuvwxyz"
DIGITS = "0123456789"
LONGEST_NAME = 12


def require(well_formed, what):
    """Raise BadValue for the parameter `what` unless it is well formed."""
    if not well_formed:
        raise BadValue(what)


def is_whole(value):
    """Tell whether the value is an integer; True and False are none."""
    return isinstance(value, int) and not isinstance(value, bool)


def is_whole_within(value, least, most):
    """Tell whether the value is an integer from `least` to `most`."""
    return is_whole(value) and least <= value <= most


def is_list_within(value, least, most):
    """Tell whether the value is a list of `least` to `most` items."""
    return isinstance(value, list) and least <= len(value) <= most


def is_tuple_of(value, many):
    """Tell whether the value is a tuple of that many items."""
    return isinstance(value, tuple) and len(value) == many


def is_name(value):
    """Tell whether the value is a name."""
    if not isinstance(value, str) or not 1 <= len(value) <= LONGEST_NAME:
        return False
    return value[0] in LETTERS and all([sign in LETTERS + DIGITS for sign in value])


def refuse_repeated(names):
    """Raise Taken for the first name that stands further ahead already."""
    for index, name in enumerate(names):
        if name in names[:index]:
            raise Taken(name)
