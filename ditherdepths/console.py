"""The console: a picture, and questions on its screen, by commands."""

from ditherdepths.dots import dot_count
from ditherdepths.edges import lone_dots
from ditherdepths.errors import InvalidCommand
from ditherdepths.pictures import Picture
from ditherdepths.runs import longest_across, longest_down
from ditherdepths.screens import bayer
from ditherdepths.texts import read_screen, show_screen

MOST_DIGITS = 100


def put_in(picture, row, number, shade):
    """The answer to `insert`."""
    picture.insert(row, number, shade)
    return "ok"


def take_out(picture, row, number):
    """The answer to `remove`."""
    picture.remove(row, number)
    return "ok"


def give_shade(picture, row, number, shade):
    """The answer to `paint`."""
    picture.paint(row, number, shade)
    return "ok"


def take_back(picture):
    """The answer to `undo`."""
    picture.undo()
    return "ok"


def tell_bands(picture):
    """The answer to `show`."""
    if not picture.bands:
        return "none"
    return " ".join([f"{height}x{shade}" for height, shade in picture.bands])


def tell_screen(picture):
    """The answer to `screen`."""
    return show_screen(picture.screen)


def tell_ink(picture):
    """The answer to `ink`."""
    return str(picture.ink())


def tell_dots(picture, shade, left, top, width, height):
    """The answer to `dots`."""
    return str(dot_count(picture.screen, shade, (left, top, width, height)))


def tell_across(picture, shade):
    """The answer to `across`."""
    return length_text(longest_across(picture.screen, shade, "dot"))


def tell_down(picture, shade):
    """The answer to `down`."""
    return length_text(longest_down(picture.screen, shade, "dot"))


def tell_alone(picture, shade):
    """The answer to `alone`."""
    return str(lone_dots(picture.screen, shade))


ANSWERS = {
    "insert": put_in, "remove": take_out, "paint": give_shade, "undo": take_back, "show": tell_bands,
    "screen": tell_screen, "ink": tell_ink, "dots": tell_dots, "across": tell_across, "down": tell_down,
    "alone": tell_alone,
}
NUMBERS = {
    "insert": 3, "remove": 2, "paint": 3, "undo": 0, "show": 0, "screen": 0, "ink": 0, "dots": 5, "across": 1,
    "down": 1, "alone": 1,
}


def length_text(length):
    """The text of a length, which is None if there is no end."""
    if length is None:
        return "none"
    return str(length)


def is_decimal(word):
    """Whether a word is a number without zeros in front."""
    if word == "0":
        return True
    digits = word.removeprefix("-")
    plain = digits.isascii() and digits.isdigit()
    return plain and digits[0] != "0" and len(digits) <= MOST_DIGITS


class Console:
    """A console with a picture."""

    def __init__(self):
        self._picture = Picture(bayer(1), 2)

    def execute(self, command):
        """Performs a command; the answer is a string."""
        if not isinstance(command, str):
            raise InvalidCommand("a command is a string")
        # The text of a screen is all that is left, so it may hold what other words may not.
        first = command.split(" ", 2)
        if len(first) == 3 and first[0] == "picture" and is_decimal(first[1]):
            self._picture = Picture(read_screen(first[2]), int(first[1]))
            return "ok"
        word, *words = command.split(" ")
        if NUMBERS.get(word) != len(words) or not all([is_decimal(number) for number in words]):
            raise InvalidCommand("there is no such command")
        numbers = [int(number) for number in words]
        answer = ANSWERS[word]
        return answer(self._picture, *numbers)
