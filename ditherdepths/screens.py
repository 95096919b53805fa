"""Screens: the threshold of each place, told level by level."""

from ditherdepths.checks import check_number, check_place, is_between, is_integer
from ditherdepths.errors import InvalidLevels, InvalidScreen, InvalidShade, TooDeep

MOST_LEVELS = 50
BAYER_LEVEL = (0, 2, 3, 1)


class Screen:
    """A screen of 1 to 50 levels, the coarsest digit of the threshold in front."""

    def __init__(self, levels):
        if not isinstance(levels, list) or not 1 <= len(levels) <= MOST_LEVELS:
            raise InvalidLevels(None)
        for number, level in enumerate(levels):
            if not is_level(level):
                raise InvalidLevels(number)
        self._levels = tuple(levels)

    @property
    def levels(self):
        """A new list of the levels."""
        return list(self._levels)

    @property
    def depth(self):
        """How many levels there are."""
        return len(self._levels)

    @property
    def period(self):
        """After how many places all repeats, both ways."""
        return 1 << len(self._levels)

    @property
    def shades(self):
        """How many thresholds there are; also the greatest shade."""
        return 1 << 2 * len(self._levels)

    def threshold(self, x, y):
        """The threshold of a place."""
        check_place(x, y)
        total = 0
        # A shift of an integer below 0 gives the digits that point 5 tells.
        for bit, level in enumerate(self._levels):
            corner = (x >> bit & 1) + 2 * (y >> bit & 1)
            total = 4 * total + level[corner]
        return total

    def place(self, number):
        """The place of the first period that has a threshold."""
        check_number(number, 0, self.shades - 1)
        x = y = 0
        rest = number
        # The last digit belongs to the last level, and so to the foremost bit.
        for level in reversed(self._levels):
            right, down = corner_of(level, rest & 3)
            x = 2 * x + right
            y = 2 * y + down
            rest >>= 2
        return x, y

    def __eq__(self, other):
        return isinstance(other, Screen) and self._levels == other._levels


def is_level(value):
    """Whether a value is a tuple of the numbers 0 to 3 in any sequence."""
    if not isinstance(value, tuple) or len(value) != 4:
        return False
    return all([is_integer(item) for item in value]) and sorted(value) == [0, 1, 2, 3]


def corner_of(level, digit):
    """The binary digits of x and of y at which a level has a digit."""
    corner = level.index(digit)
    return corner & 1, corner >> 1


def threshold_at(screen, x, y):
    """The threshold of a place that may lie beyond the bounds."""
    # The place like it in the first period does not.
    return screen.threshold(x % screen.period, y % screen.period)


def check_screen(screen):
    """Raises InvalidScreen unless this is a screen."""
    if not isinstance(screen, Screen):
        raise InvalidScreen("a Screen is needed")


def check_shade(screen, shade):
    """Raises InvalidShade unless this is a shade of the screen."""
    if not is_between(shade, 0, screen.shades):
        raise InvalidShade(f"the shade is an integer from 0 to {screen.shades}")


def bayer(number):
    """The usual screen with so many levels."""
    check_number(number, 1, MOST_LEVELS)
    return Screen([BAYER_LEVEL] * number)


def mirrored(screen):
    """The screen mirrored left to right, between the places -1 and 0."""
    check_screen(screen)
    return Screen([(b, a, d, c) for a, b, c, d in screen.levels])


def flipped(screen):
    """The screen mirrored top to bottom, between the places -1 and 0."""
    check_screen(screen)
    return Screen([(c, d, a, b) for a, b, c, d in screen.levels])


def transposed(screen):
    """The screen with x and y exchanged."""
    check_screen(screen)
    return Screen([(a, c, b, d) for a, b, c, d in screen.levels])


def first_levels(screen, number):
    """The screen of so many levels of a screen, from the first one on."""
    check_screen(screen)
    check_number(number, 1, screen.depth)
    return Screen(screen.levels[:number])


def stacked(screen, second):
    """The screen with the levels of the first one, then those of the second one."""
    check_screen(screen)
    check_screen(second)
    levels = screen.levels + second.levels
    if len(levels) > MOST_LEVELS:
        raise TooDeep(MOST_LEVELS)
    return Screen(levels)
