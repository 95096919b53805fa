"""Inks: how much plates overlap in a window."""

from ditherdepths.checks import check_window
from ditherdepths.parts import count_places, parts_of, places_of
from ditherdepths.plates import check_plates, demand_on

MOST_INKS = 3


def ink_counts(plates, window):
    """For each number the places of a window at which it tells the plates that have dots, by its binary digits."""
    check_plates(plates, MOST_INKS)
    check_window(window)
    return [count_just(plates, number, window) for number in range(1 << len(plates))]


def covered(plates, window):
    """How many places of a window have a dot of at least one plate."""
    check_plates(plates, MOST_INKS)
    check_window(window)
    return places_of(window) - count_just(plates, 0, window)


def count_just(plates, number, window):
    """At how many places of a window the plates with dots are those whose binary digit in a number is 1."""
    demands = [demand_on(plate, 0, 0, (number >> item & 1) == 1) for item, plate in enumerate(plates)]
    return count_places(parts_of(demands), window)
