"""Patterns: the places at which moved plates have dots or blanks as told."""

from math import gcd

from ditherdepths.checks import check_place, check_window, is_between, is_coordinate
from ditherdepths.errors import InvalidConditions
from ditherdepths.parts import count_places, parts_of
from ditherdepths.plates import check_plates, demand_on
from ditherdepths.screens import threshold_at

MOST_PLATES = 4
MOST_CONDITIONS = 5


def matches(plates, conditions, x, y):
    """Whether a place has all conditions."""
    check_pattern(plates, conditions)
    check_place(x, y)
    return all([has_condition(plates, condition, x, y) for condition in conditions])


def match_count(plates, conditions, window):
    """How many places of a window have all conditions."""
    check_pattern(plates, conditions)
    check_window(window)
    return count_places(pattern_parts(plates, conditions), window)


def match_share(plates, conditions):
    """The part of all places that have all conditions, as a fraction in its lowest terms."""
    check_pattern(plates, conditions)
    period = max([screen.period for screen, _, _, _ in plates])
    whole = period * period
    many = count_places(pattern_parts(plates, conditions), (0, 0, period, period))
    common = gcd(many, whole)
    return many // common, whole // common


def check_pattern(plates, conditions):
    """Raises InvalidPlates, then InvalidConditions unless these are lists of such."""
    check_plates(plates, MOST_PLATES)
    if not isinstance(conditions, list) or not 1 <= len(conditions) <= MOST_CONDITIONS:
        raise InvalidConditions(None)
    for item, condition in enumerate(conditions):
        if not is_condition(condition, len(plates)):
            raise InvalidConditions(item)


def is_condition(value, many):
    """Whether a value is a condition on one of so many plates."""
    if not isinstance(value, tuple) or len(value) != 4:
        return False
    plate, x, y, is_dot = value
    if not is_between(plate, 0, many - 1) or not isinstance(is_dot, bool):
        return False
    return is_coordinate(x) and is_coordinate(y)


def has_condition(plates, condition, x, y):
    """Whether a place has a condition."""
    number, right, down, is_dot = condition
    screen, shade, across, below = plates[number]
    return (threshold_at(screen, x + right - across, y + down - below) < shade) == is_dot


def pattern_parts(plates, conditions):
    """The parts that have the places that have all conditions."""
    return parts_of([demand_on(plates[number], x, y, is_dot) for number, x, y, is_dot in conditions])
