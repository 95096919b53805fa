"""Dots: which places have one by a shade, and how many in a window."""

from ditherdepths.checks import check_index, check_window
from ditherdepths.parts import count_places, dot_parts, nth_place
from ditherdepths.screens import check_screen, check_shade


def is_dot(screen, shade, x, y):
    """Whether a place has a dot."""
    check_screen(screen)
    check_shade(screen, shade)
    return screen.threshold(x, y) < shade


def dot_count(screen, shade, window):
    """How many dots a window has."""
    check_screen(screen)
    check_shade(screen, shade)
    check_window(window)
    return count_places(dot_parts(screen, shade), window)


def nth_dot(screen, shade, window, number):
    """The place of the dot of a window with a number, row by row; None if there is none."""
    check_screen(screen)
    check_shade(screen, shade)
    check_window(window)
    check_index(number)
    return nth_place(dot_parts(screen, shade), window, number)
