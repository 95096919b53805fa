"""Checks of arguments that need no screen."""

from ditherdepths.errors import InvalidNumber, InvalidPlace, InvalidWindow

FARTHEST = 10 ** 30


def is_integer(value):
    """Whether a value is an integer; True and False are none."""
    return isinstance(value, int) and not isinstance(value, bool)


def is_between(value, least, greatest):
    """Whether a value is an integer from the least to the greatest one."""
    return is_integer(value) and least <= value <= greatest


def is_coordinate(value):
    """Whether a value is an x or a y within the bounds."""
    return is_between(value, -FARTHEST, FARTHEST)


def is_window(value):
    """Whether a value is a window."""
    if not isinstance(value, tuple) or len(value) != 4:
        return False
    left, top, width, height = value
    corner = is_coordinate(left) and is_coordinate(top)
    return corner and is_between(width, 1, FARTHEST) and is_between(height, 1, FARTHEST)


def check_coordinate(value):
    """Raises InvalidPlace unless this is an x or a y within the bounds."""
    if not is_coordinate(value):
        raise InvalidPlace("x and y are integers from -10 ** 30 to 10 ** 30")


def check_place(x, y):
    """Raises InvalidPlace unless both are within the bounds."""
    check_coordinate(x)
    check_coordinate(y)


def check_window(window):
    """Raises InvalidWindow unless this is a window."""
    if not is_window(window):
        raise InvalidWindow("a window is a tuple (left, top, width, height) within the bounds")


def check_number(number, least, greatest):
    """Raises InvalidNumber unless this is an integer of the range."""
    if not is_between(number, least, greatest):
        raise InvalidNumber(f"the number is an integer from {least} to {greatest}")


def check_index(number):
    """Raises InvalidNumber unless this is an integer from 0 on."""
    if not is_integer(number) or number < 0:
        raise InvalidNumber("the number is an integer from 0 on")
