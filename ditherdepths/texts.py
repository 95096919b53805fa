"""Texts of screens, and dots shown by signs."""

from ditherdepths.checks import check_window
from ditherdepths.errors import InvalidText, InvalidWindow
from ditherdepths.parts import places_of
from ditherdepths.screens import MOST_LEVELS, Screen, check_screen, check_shade, threshold_at

MOST_SHOWN = 4000


def show_screen(screen):
    """The text of a screen."""
    check_screen(screen)
    return " ".join([f"{a}{b}{c}{d}" for a, b, c, d in screen.levels])


def read_screen(text):
    """The screen with a text."""
    if not isinstance(text, str):
        raise InvalidText(None)
    parts = text.split(" ")
    for number, part in enumerate(parts):
        if sorted(part) != ["0", "1", "2", "3"]:
            raise InvalidText(number)
    if len(parts) > MOST_LEVELS:
        raise InvalidText(MOST_LEVELS)
    return Screen([tuple([int(letter) for letter in part]) for part in parts])


def show_dots(screen, shade, window):
    """The rows of a window, with # for a dot and . for a blank."""
    check_screen(screen)
    check_shade(screen, shade)
    check_window(window)
    if places_of(window) > MOST_SHOWN:
        raise InvalidWindow(f"a window that is shown has at most {MOST_SHOWN} places")
    left, top, width, height = window
    return "\n".join([row_text(screen, shade, y, left, width) for y in range(top, top + height)])


def row_text(screen, shade, y, left, width):
    """The signs of so many places of a row, from the left one on."""
    return "".join([sign_of(screen, shade, x, y) for x in range(left, left + width)])


def sign_of(screen, shade, x, y):
    """The sign of a place, which may lie beyond the bounds as windows reach there."""
    if threshold_at(screen, x, y) < shade:
        return "#"
    return "."
