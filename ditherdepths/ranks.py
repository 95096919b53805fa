"""Ranks: the thresholds of a window in ascending sequence, and the shades that give so many dots."""

from ditherdepths.checks import check_number, check_window
from ditherdepths.parts import count_places, places_of
from ditherdepths.screens import check_screen, corner_of


def nth_threshold(screen, window, number):
    """The threshold with a number in the ascending sequence of all thresholds of a window."""
    check_screen(screen)
    check_window(window)
    check_number(number, 0, places_of(window) - 1)
    return ranked(screen, window, number)


def threshold_range(screen, window):
    """The least and the greatest threshold of a window."""
    check_screen(screen)
    check_window(window)
    return ranked(screen, window, 0), ranked(screen, window, places_of(window) - 1)


def times_of(screen, window, threshold):
    """How often a threshold stands in a window."""
    check_screen(screen)
    check_window(window)
    x, y = screen.place(threshold)
    return count_places([(screen.period, 1, x, y)], window)


def least_shade(screen, window, number):
    """The least shade by which a window has at least so many dots."""
    check_screen(screen)
    check_window(window)
    check_number(number, 0, places_of(window))
    if number == 0:
        return 0
    return ranked(screen, window, number - 1) + 1


def shades_with(screen, window, number):
    """The least and the greatest shade by which a window has just so many dots; None if there is none."""
    least = least_shade(screen, window, number)
    if number == places_of(window):
        return least, screen.shades
    greatest = ranked(screen, window, number)
    # The next dot may come by the same shade as the last one wanted.
    if greatest < least:
        return None
    return least, greatest


def ranked(screen, window, number):
    """The threshold with a number, found digit by digit."""
    threshold = x = y = 0
    size = 1
    ahead = number
    for level in screen.levels:
        for digit in range(4):
            right, down = corner_of(level, digit)
            corner = (x + size * right, y + size * down)
            many = count_places([(2 * size, 1, *corner)], window)
            if ahead < many:
                break
            ahead -= many
        threshold = 4 * threshold + digit
        x, y = corner
        size *= 2
    return threshold
