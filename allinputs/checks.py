"""What arguments have to be; whatever they are not is told by BadValue."""

from allinputs.errors import BadValue


def is_integer(value):
    """Whether something is an integer; True and False are none."""
    return isinstance(value, int) and not isinstance(value, bool)


def is_plain(text):
    """Whether all characters of a string are from the space to "~"."""
    return text.isascii() and text.isprintable()


def check_integer(value):
    """An integer of any size."""
    if not is_integer(value):
        raise BadValue(value)


def check_range(value, least, most):
    """An integer from least to most."""
    if not is_integer(value) or value < least or value > most:
        raise BadValue(value)


def check_whole(value):
    """An integer from 0 on."""
    if not is_integer(value) or value < 0:
        raise BadValue(value)


def check_truth(value):
    """True or False."""
    if not isinstance(value, bool):
        raise BadValue(value)


def check_string(value):
    """Any string."""
    if not isinstance(value, str):
        raise BadValue(value)


def check_list(value):
    """A list, or a tuple passed for one."""
    if not isinstance(value, (list, tuple)):
        raise BadValue(value)
