"""Checks of single values that several modules need."""

from squeezedkeyer.errors import InvalidLever, InvalidNumber, InvalidTick

LEVERS = ("s", "l")


def is_whole(value):
    """Whether a value is an integer; True and False are none."""
    return isinstance(value, int) and not isinstance(value, bool)


def is_whole_from(value, least):
    """Whether a value is an integer that is not less than the least one."""
    return is_whole(value) and value >= least


def is_one_of(value, words):
    """Whether a value is one of some words."""
    # Values of other kinds may answer == in ways of their own.
    return isinstance(value, str) and value in words


def is_lever(value):
    """Whether a value is a lever, which is also a kind of marks."""
    return is_one_of(value, LEVERS)


def check_lever(value):
    """Raise InvalidLever unless a value is a lever."""
    if not is_lever(value):
        raise InvalidLever("a lever is s or l")


def check_tick(value):
    """Raise InvalidTick unless a value is a tick."""
    if not is_whole(value):
        raise InvalidTick("a tick is an integer")


def check_number_from(value, least):
    """Raise InvalidNumber unless a value is an integer from the least one on."""
    if not is_whole_from(value, least):
        raise InvalidNumber(f"this number is an integer from {least} on")


def other_lever(lever):
    """The other one of the two levers."""
    return "l" if lever == "s" else "s"
