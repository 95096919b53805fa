"""Told: which shades what was seen, or counted, can come from."""

from ditherdepths.checks import is_between, is_coordinate, is_window
from ditherdepths.errors import InvalidSeen
from ditherdepths.parts import places_of
from ditherdepths.ranks import shades_with
from ditherdepths.screens import check_screen

MOST_SEEN = 400
MOST_COUNTED = 20
MOST_DOTS = 10 ** 60


def shades_for(screen, seen):
    """The least and the greatest shade by which all places have what was seen; None if there is none."""
    check_screen(screen)
    check_told(seen, MOST_SEEN, is_seen)
    bounds = (0, screen.shades)
    for sight in seen:
        bounds = common(bounds, shades_seen(screen, sight))
    return shades_within(bounds)


def deciding(screen, seen):
    """The numbers of the items that decide the least and the greatest shade; None for one that is not there."""
    check_screen(screen)
    check_told(seen, MOST_SEEN, is_seen)
    thresholds = [screen.threshold(x, y) for x, y, _ in seen]
    dots = [item for item, (_, _, is_dot) in enumerate(seen) if is_dot]
    blanks = [item for item, (_, _, is_dot) in enumerate(seen) if not is_dot]
    least = max(dots, key=lambda item: thresholds[item], default=None)
    greatest = min(blanks, key=lambda item: thresholds[item], default=None)
    return least, greatest


def first_contradiction(screen, seen):
    """The number of the first item that no shade agrees with, and with all ahead of it; None if there is none."""
    check_screen(screen)
    check_told(seen, MOST_SEEN, is_seen)
    bounds = (0, screen.shades)
    for item, sight in enumerate(seen):
        bounds = common(bounds, shades_seen(screen, sight))
        if shades_within(bounds) is None:
            return item
    return None


def shades_counted(screen, counted):
    """The least and the greatest shade by which all windows have just so many dots; None if there is none."""
    check_screen(screen)
    check_told(counted, MOST_COUNTED, is_counted)
    bounds = (0, screen.shades)
    for window, number in counted:
        if number > places_of(window):
            return None
        shades = shades_with(screen, window, number)
        if shades is None:
            return None
        bounds = common(bounds, shades)
    return shades_within(bounds)


def check_told(told, most, is_item):
    """Raises InvalidSeen unless this is a list of items, and not more than so many."""
    if not isinstance(told, list) or not 1 <= len(told) <= most:
        raise InvalidSeen(None)
    for item, value in enumerate(told):
        if not is_item(value):
            raise InvalidSeen(item)


def is_seen(value):
    """Whether a value is a place with what was seen there."""
    if not isinstance(value, tuple) or len(value) != 3:
        return False
    x, y, is_dot = value
    return is_coordinate(x) and is_coordinate(y) and isinstance(is_dot, bool)


def is_counted(value):
    """Whether a value is a window with how many dots were counted in it."""
    if not isinstance(value, tuple) or len(value) != 2:
        return False
    window, number = value
    return is_window(window) and is_between(number, 0, MOST_DOTS)


def shades_seen(screen, sight):
    """The least and the greatest shade by which a place has what was seen."""
    x, y, is_dot = sight
    threshold = screen.threshold(x, y)
    if is_dot:
        return threshold + 1, screen.shades
    return 0, threshold


def common(bounds, others):
    """The least and the greatest shade of those that are within both."""
    return max(bounds[0], others[0]), min(bounds[1], others[1])


def shades_within(bounds):
    """The bounds themselves; None if no shade is within them."""
    if bounds[0] > bounds[1]:
        return None
    return bounds
