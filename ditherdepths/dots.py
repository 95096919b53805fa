"""Dots: which places have one by a shade, and how many in a window."""

from ditherdepths.checks import check_index, check_window
from ditherdepths.screens import check_screen, check_shade, corner_of


def is_dot(screen, shade, x, y):
    """Whether a place has a dot."""
    check_screen(screen)
    check_shade(screen, shade)
    return screen.threshold(x, y) < shade


def dot_count(screen, shade, window):
    """How many dots a window has."""
    check_screen(screen)
    check_shade(screen, shade)
    check_window(window)
    left, top, width, height = window
    return count_ahead(weighted_rows(dot_sets(screen, shade), left, width), top, height)


def nth_dot(screen, shade, window, number):
    """The place of the dot of a window with a number, row by row; None if there is none."""
    check_screen(screen)
    check_shade(screen, shade)
    check_window(window)
    check_index(number)
    left, top, width, height = window
    sets = dot_sets(screen, shade)
    rows = weighted_rows(sets, left, width)
    if number >= count_ahead(rows, top, height):
        return None
    down = steps_to(rows, top, height, number)
    y = top + down
    columns = [(1, step, x) for step, x, rest in sets if (y - rest) % step == 0]
    across = steps_to(columns, left, width, number - count_ahead(rows, top, down))
    return left + across, y


def dot_sets(screen, shade):
    """Parts (step, x, y) that together have each dot once, all places (x + m * step, y + n * step).

    A dot's digits are those of the shade up to the level at which its digit is
    less, so the levels up to there tell the last binary digits of x and y.
    """
    if shade == screen.shades:
        return [(1, 0, 0)]
    sets = []
    x = y = 0
    size = 1
    unit = screen.shades
    for level in screen.levels:
        unit >>= 2
        digit = shade // unit & 3
        for less in range(digit):
            right, down = corner_of(level, less)
            sets.append((2 * size, x + size * right, y + size * down))
        right, down = corner_of(level, digit)
        x += size * right
        y += size * down
        size *= 2
    return sets


def weighted_rows(sets, left, width):
    """Of each set how many places a row has that it meets, its step, and its y."""
    return [(count_in_line(left, width, step, x), step, y) for step, x, y in sets]


def count_in_line(start, length, step, rest):
    """How many of so many integers from a start on are a rest and a multiple of the step."""
    return (start + length - 1 - rest) // step - (start - 1 - rest) // step


def count_ahead(lines, start, length):
    """How many dots so many lines from a start on have."""
    return sum([many * count_in_line(start, length, step, rest) for many, step, rest in lines])


def steps_to(lines, start, length, number):
    """How many lines from a start on stand ahead of the one that has the dot with a number."""
    least = 0
    greatest = length - 1
    while least < greatest:
        middle = (least + greatest + 1) // 2
        if count_ahead(lines, start, middle) <= number:
            least = middle
        else:
            greatest = middle - 1
    return least
