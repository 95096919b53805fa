"""Edges: how often dots and blanks stand side by side in a period, and how dots hang together."""

from ditherdepths.parts import count_places, demand_of, parts_of
from ditherdepths.screens import check_screen, check_shade


def edges(screen, shade):
    """How many places of a period have a right neighbour, and how many a lower one, of the other kind."""
    check_screen(screen)
    check_shade(screen, shade)
    # In a row that repeats, a dot ahead of a blank comes as often as a blank ahead of a dot.
    across = count_near(screen, shade, [(0, 0)], [(1, 0)])
    down = count_near(screen, shade, [(0, 0)], [(0, 1)])
    return 2 * across, 2 * down


def lone_dots(screen, shade):
    """How many dots of a period have no dot right, left, above or below them."""
    check_screen(screen)
    check_shade(screen, shade)
    return count_near(screen, shade, [(0, 0)], [(1, 0), (-1, 0), (0, 1), (0, -1)])


def islands_less_holes(screen, shade):
    """The dots of a period, less the pairs of neighbours, and the squares of 2 by 2 dots."""
    check_screen(screen)
    check_shade(screen, shade)
    across = count_near(screen, shade, [(0, 0), (1, 0)], [])
    down = count_near(screen, shade, [(0, 0), (0, 1)], [])
    squares = count_near(screen, shade, [(0, 0), (1, 0), (0, 1), (1, 1)], [])
    return shade - across - down + squares


def count_near(screen, shade, dots, blanks):
    """How many places of a period have dots and blanks so far to the right and down."""
    demands = [demand_of(screen, shade, x, y, True) for x, y in dots]
    demands.extend([demand_of(screen, shade, x, y, False) for x, y in blanks])
    return count_places(parts_of(demands), (0, 0, screen.period, screen.period))
