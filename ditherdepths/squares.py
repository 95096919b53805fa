"""Squares: which squares of 2 ** side by 2 ** side places have a dot more than others."""

from ditherdepths.checks import check_place, check_window, is_between
from ditherdepths.errors import InvalidSide
from ditherdepths.parts import count_places, dot_parts, nth_place
from ditherdepths.screens import check_screen, check_shade


def even_part(screen, shade, side):
    """The number of dots that each square has at least."""
    check_square(screen, shade, side)
    return shade >> 2 * (screen.depth - side)


def is_fuller(screen, shade, side, x, y):
    """Whether the square at a place has a dot more than the least."""
    check_square(screen, shade, side)
    check_place(x, y)
    length = 1 << side
    return count_places(dot_parts(screen, shade), (x, y, length, length)) > even_part(screen, shade, side)


def fuller_count(screen, shade, side, window):
    """At how many places of a window the square has a dot more."""
    check_square(screen, shade, side)
    check_window(window)
    return count_places(fuller_parts(screen, shade, side), window)


def first_fuller(screen, shade, side, window):
    """The first place of a window, row by row, at which the square has a dot more; None if there is none."""
    check_square(screen, shade, side)
    check_window(window)
    return nth_place(fuller_parts(screen, shade, side), window, 0)


def check_square(screen, shade, side):
    """Raises the error of the first one that is wrong."""
    check_screen(screen)
    check_shade(screen, shade)
    if not is_between(side, 0, screen.depth):
        raise InvalidSide(f"the side is an integer from 0 to {screen.depth}")


def fuller_parts(screen, shade, side):
    """The parts that have the places at which the square has a dot more.

    The dots that not all squares have are those that more digits tell than
    there are to a side; the squares with such a dot begin at most a length
    less 1 ahead of it.
    """
    if shade == screen.shades:
        return []
    length = 1 << side
    dots = dot_parts(screen, shade)
    return [(step, length, x + 1 - length, y + 1 - length) for step, _, x, y in dots if step > length]
