"""Alike: when two screens show the same, and when one is the other one moved."""

from ditherdepths.checks import check_place, check_window
from ditherdepths.parts import count_places, demand_of, nth_place, parts_of
from ditherdepths.screens import Screen, check_screen, check_shade


def same_dots(screen, shade, second, second_shade):
    """Whether all places have the same by both."""
    check_both(screen, shade, second, second_shade)
    return unlike_parts(screen, shade, second, second_shade) == []


def unlike_count(screen, shade, second, second_shade, window):
    """How many places of a window have not the same by both."""
    check_both(screen, shade, second, second_shade)
    check_window(window)
    return count_places(unlike_parts(screen, shade, second, second_shade), window)


def first_unlike(screen, shade, second, second_shade, window):
    """The first place of a window, row by row, that has not the same by both; None if there is none."""
    check_both(screen, shade, second, second_shade)
    check_window(window)
    return nth_place(unlike_parts(screen, shade, second, second_shade), window, 0)


def moved(screen, x, y):
    """The screen whose thresholds are those of the screen at the place less (x, y); None if there is none."""
    check_screen(screen)
    check_place(x, y)
    half = screen.period // 2
    if x % half or y % half:
        # The sum's digits depend on those that are carried, so the moved thresholds are no screen's.
        return None
    # Half a period changes the foremost digits alone, those that the last level reads.
    turned = (x // half & 1) + 2 * (y // half & 1)
    *coarser, last = screen.levels
    return Screen([*coarser, tuple([last[corner ^ turned] for corner in range(4)])])


def shift_between(screen, second):
    """The least (x, y) from 0 on by which the first screen is moved to be the second one; None if there is none."""
    check_screen(screen)
    check_screen(second)
    half = screen.period // 2
    for x in (0, half):
        for y in (0, half):
            if moved(screen, x, y) == second:
                return x, y
    return None


def check_both(screen, shade, second, second_shade):
    """Raises the error of the first one that is wrong."""
    check_screen(screen)
    check_shade(screen, shade)
    check_screen(second)
    check_shade(second, second_shade)


def unlike_parts(screen, shade, second, second_shade):
    """The parts that have the places with a dot by just one of both."""
    parts = []
    for is_dot in (True, False):
        demands = [demand_of(screen, shade, 0, 0, is_dot), demand_of(second, second_shade, 0, 0, not is_dot)]
        parts.extend(parts_of(demands))
    return parts
