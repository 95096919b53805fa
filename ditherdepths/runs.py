"""Runs: how long dots, or blanks, stand side by side or one above another."""

from ditherdepths.checks import check_coordinate
from ditherdepths.errors import InvalidKind
from ditherdepths.parts import digits_of
from ditherdepths.screens import Screen, check_screen, check_shade, transposed


def longest_in_row(screen, shade, y, kind):
    """How many stand side by side at most in a row; None if they have no end."""
    check_screen(screen)
    check_shade(screen, shade)
    check_coordinate(y)
    check_kind(kind)
    return longest_run(screen, shade, kind, [[y >> bit & 1] for bit in range(screen.depth)])


def longest_in_column(screen, shade, x, kind):
    """How many stand one above another at most in a column; None if they have no end."""
    return longest_in_row(transposed(screen), shade, x, kind)


def longest_across(screen, shade, kind):
    """How many stand side by side at most in all rows; None if they have no end in one."""
    check_screen(screen)
    check_shade(screen, shade)
    check_kind(kind)
    return longest_run(screen, shade, kind, [[0, 1]] * screen.depth)


def longest_down(screen, shade, kind):
    """How many stand one above another at most in all columns; None if they have no end in one."""
    return longest_across(transposed(screen), shade, kind)


def check_kind(kind):
    """Raises InvalidKind unless dots or blanks are asked for."""
    if not isinstance(kind, str) or kind not in ("dot", "blank"):
        raise InvalidKind("the kind is dot or blank")


def longest_run(screen, shade, kind, rows):
    """The longest run of the rows whose y has, at each bit, one of the binary digits that are told for it."""
    if kind == "blank":
        return longest_run(turned_over(screen), screen.shades - shade, "dot", rows)
    # No level is left behind the last one: there the threshold is the shade itself, a blank.
    longest = 0
    for level, digit, bits in reversed(list(zip(screen.levels, digits_of(screen, shade), rows))):
        # A longer run in the finer rows never makes a shorter one here, so the longest is enough.
        longest = greatest([run_of(level[2 * bit:2 * bit + 2], digit, longest) for bit in bits])
    return longest


def turned_over(screen):
    """The screen whose thresholds are the greatest one less those of the screen."""
    return Screen([(3 - a, 3 - b, 3 - c, 3 - d) for a, b, c, d in screen.levels])


def run_of(pair, digit, finer):
    """The longest run of a row whose places have two digits in turn, the run of the finer row being told."""
    first, second = [half_of(own, digit, finer) for own in pair]
    if first is None and second is None:
        return None
    if first is None:
        return 2 * second + 1
    if second is None:
        return 2 * first + 1
    # One half has no dot, so that no two stand side by side.
    return min(first + second, 1)


def half_of(own, digit, finer):
    """The longest run of a half of a row, whose places have a digit; None if all have dots."""
    if own < digit:
        return None
    if own > digit:
        return 0
    return finer


def greatest(runs):
    """The greatest of some runs; None if one has no end."""
    if None in runs:
        return None
    return max(runs)
