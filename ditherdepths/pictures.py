"""Pictures: rows with a shade each that are put in, taken out and painted, with undo and a limit of ink."""

from ditherdepths.bands import band_of, cut, height_of, ink_of, joined
from ditherdepths.checks import FARTHEST, check_number, is_between, is_integer
from ditherdepths.errors import InvalidLimit, InvalidOperation, InvalidRows, Nothing, OverInk
from ditherdepths.screens import check_screen, check_shade

ITEMS = {"insert": 4, "remove": 3, "paint": 4}


def check_row(row, greatest):
    """Raises InvalidRows unless this is an integer from 0 to the greatest one."""
    if not is_between(row, 0, greatest):
        raise InvalidRows("there is no such row")


def check_rows(bands, row, number):
    """Raises InvalidRows unless there are so many rows, and at least one, from this one on."""
    height = height_of(bands)
    check_row(row, height - 1)
    if not is_between(number, 1, height - row):
        raise InvalidRows("there are not so many rows")


def changed(screen, width, bands, call):
    """The bands that a call makes of bands, which stay as they are."""
    word, row, number, *shades = call
    taken = 0
    if word == "insert":
        check_row(row, height_of(bands))
        check_number(number, 1, FARTHEST)
    else:
        check_rows(bands, row, number)
        taken = number
    # A call has one shade, or none if rows are only taken out.
    for shade in shades:
        check_shade(screen, shade)
    put = [band_of(screen, width, number, shade) for shade in shades]
    ahead, _ = cut(bands, row)
    _, behind = cut(bands, row + taken)
    return joined([*ahead, *put, *behind])


def is_step(value):
    """Whether a value is a tuple of the word of a call and as many further items as it takes."""
    if not isinstance(value, tuple) or not value or not isinstance(value[0], str):
        return False
    return ITEMS.get(value[0]) == len(value)


class Picture:
    """A picture, at first without rows."""

    def __init__(self, screen, width):
        check_screen(screen)
        check_number(width, 1, FARTHEST)
        self._screen = screen
        self._width = width
        self._limit = None
        self._bands = []
        self._calls = []
        self._earlier = []

    @property
    def screen(self):
        """The screen of all rows."""
        return self._screen

    @property
    def width(self):
        """How many places each row has."""
        return self._width

    @property
    def bands(self):
        """A new list of the bands, tuples (height, shade)."""
        return [(height, shade) for height, shade, _ in self._bands]

    @property
    def height(self):
        """How many rows there are."""
        return height_of(self._bands)

    def __eq__(self, other):
        return (
            isinstance(other, Picture) and self._screen == other._screen and self._width == other._width
            and self._limit == other._limit and self.bands == other.bands
        )

    def insert(self, row, number, shade):
        """Puts in so many rows of a shade, ahead of the row that has this number."""
        self._change(("insert", row, number, shade))

    def remove(self, row, number):
        """Takes out so many rows, from this one on."""
        self._change(("remove", row, number))

    def paint(self, row, number, shade):
        """Gives so many rows, from this one on, a shade."""
        self._change(("paint", row, number, shade))

    def undo(self):
        """Takes back the last call that is not taken back yet."""
        if not self._calls:
            raise Nothing("there is no call to take back")
        self._calls.pop()
        self._bands = self._earlier.pop()

    def log(self):
        """A new list of the calls that are not taken back."""
        return list(self._calls)

    def ink(self):
        """How many dots all rows have together."""
        return ink_of(self._bands, 0)

    def ink_between(self, row, number):
        """How many dots so many rows have together, from this one on."""
        check_rows(self._bands, row, number)
        ahead, _ = cut(self._bands, row + number)
        _, between = cut(ahead, row)
        return ink_of(between, row)

    def preview(self, *steps):
        """How many dots there would be behind some calls, tuples as in the log."""
        for step in steps:
            if not is_step(step):
                raise InvalidOperation("a step is a tuple of a call's word and its arguments")
        bands = self._bands
        for step in steps:
            bands = self._after(bands, step)
        return ink_of(bands, 0)

    def _change(self, call):
        """Makes a call that changes the picture."""
        bands = self._after(self._bands, call)
        self._earlier.append(self._bands)
        self._calls.append(call)
        self._bands = bands

    def _after(self, bands, call):
        """The bands that a call makes of bands, which stay as they are."""
        return changed(self._screen, self._width, bands, call)


class InkPicture(Picture):
    """A picture that refuses calls that would bring more dots than its limit."""

    def __init__(self, screen, width, limit):
        super().__init__(screen, width)
        if not is_integer(limit) or limit < 0:
            raise InvalidLimit("the limit is an integer from 0 on")
        self._limit = limit

    @property
    def limit(self):
        """How many dots there may be."""
        return self._limit

    def _after(self, bands, call):
        """The bands that a call makes of bands; raises OverInk if they have too many dots."""
        after = super()._after(bands, call)
        count = ink_of(after, 0)
        if count > self._limit:
            raise OverInk(count)
        return after
