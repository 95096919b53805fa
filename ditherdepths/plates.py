"""Plates: screens with a shade that are moved."""

from ditherdepths.checks import is_between, is_coordinate
from ditherdepths.errors import InvalidPlates
from ditherdepths.parts import demand_of
from ditherdepths.screens import Screen


def check_plates(plates, most):
    """Raises InvalidPlates unless this is a list of plates, and not more than so many."""
    if not isinstance(plates, list) or not 1 <= len(plates) <= most:
        raise InvalidPlates(None)
    for item, plate in enumerate(plates):
        if not is_plate(plate):
            raise InvalidPlates(item)


def is_plate(value):
    """Whether a value is a plate."""
    if not isinstance(value, tuple) or len(value) != 4:
        return False
    screen, shade, x, y = value
    if not isinstance(screen, Screen) or not is_between(shade, 0, screen.shades):
        return False
    return is_coordinate(x) and is_coordinate(y)


def demand_on(plate, right, down, is_dot):
    """What a place is asked for: a dot, or a blank, of a plate so far to the right and down."""
    screen, shade, x, y = plate
    return demand_of(screen, shade, right - x, down - y, is_dot)
