"""What the tests share: slow answers by the words of the document, and wrong values."""

from ditherdepths.screens import Screen, bayer

FAR = 10 ** 30
LONG = 10 ** 999


def nested(depth):
    """A list in a list, so many deep."""
    value = []
    for _ in range(depth - 1):
        value = [value]
    return value


# Values that are no integer, no screen, no level, no window.
WRONG = [
    None, True, False, "", "0", "1", b"1", (), (1,), [], [1], {}, {1: 1}, set(), {1}, frozenset([1]),
    object(), int, len, range(4), Screen, nested(40), iter([1]), ValueError("1"),
]
ONE = (0, 0, 1, 1)
FAR_PLACES = [0, 1, -1, 2 ** 50, 2 ** 50 - 1, -2 ** 50, FAR - 1, FAR, -FAR, 1 - FAR]
WRONG_SCREENS = WRONG + [0, [(0, 2, 3, 1)], ((0, 2, 3, 1),), [bayer(1)]]
WRONG_COORDINATES = WRONG + [FAR + 1, -FAR - 1, LONG, -LONG]
WRONG_TRUTHS = [value for value in WRONG if not isinstance(value, bool)] + [0, 1, LONG, "True", (True,), [True]]
WRONG_WINDOWS = WRONG + [
    0, LONG, [0, 0, 1, 1], (0, 0, 1), (0, 0, 1, 1, 1), (0, 0, 0, 1), (0, 0, 1, 0), (0, 0, -1, 1), (0, 0, 1, -1),
    (FAR + 1, 0, 1, 1), (-FAR - 1, 0, 1, 1), (0, FAR + 1, 1, 1), (0, -FAR - 1, 1, 1), (0, 0, FAR + 1, 1),
    (0, 0, 1, FAR + 1), (True, 0, 1, 1), (0, False, 1, 1), (0, 0, True, 1), (0, 0, 1, True), (None, 0, 1, 1),
    (0, "0", 1, 1), (0, 0, (1,), 1), (0, 0, 1, [1]), ((0, 0), (1, 1)), "0011", {0: 0, 1: 0, 2: 1, 3: 1},
    (0, 0, 1, LONG), (-LONG, 0, 1, 1), ONE + ONE,
]


def slow_digit(number, index):
    """A binary digit by the words of point 5."""
    if number < 0:
        number += 2 ** 250
    return int(bin(number)[2:].zfill(300)[::-1][index])


def slow_threshold(levels, x, y):
    """The threshold of a place by the words of point 5."""
    digits = ""
    for index, (a, b, c, d) in enumerate(levels):
        pair = (slow_digit(x, index), slow_digit(y, index))
        digits += str({(0, 0): a, (1, 0): b, (0, 1): c, (1, 1): d}[pair])
    return int(digits, 4)


def slow_dots(levels, shade, window):
    """All dots of a window in the reading sequence."""
    left, top, width, height = window
    return [
        (x, y)
        for y in range(top, top + height)
        for x in range(left, left + width)
        if slow_threshold(levels, x, y) < shade
    ]


def slow_table(levels):
    """The thresholds of the first period, row by row."""
    period = range(2 ** len(levels))
    return [[slow_threshold(levels, x, y) for x in period] for y in period]


def small_dots(levels, shade):
    """Whether a place has a dot, as a function, of a screen of few levels."""
    table = slow_table(levels)
    period = len(table)
    return lambda x, y: table[y % period][x % period] < shade


def turned_over(screen):
    """The screen that has each number d of each level as 3 - d."""
    return Screen([tuple(3 - digit for digit in level) for level in screen.levels])


def wrong_plates(plate):
    """Values that are no plate, some of them nearly this one."""
    screen, shade, x, y = plate
    wrong = WRONG + [0, LONG, screen, list(plate), plate[:3], (*plate, 0), [plate], (plate,)]
    wrong += [(value, shade, x, y) for value in WRONG_SCREENS]
    wrong += [(screen, value, x, y) for value in wrong_shades(screen)]
    wrong += [(screen, shade, value, y) for value in WRONG_COORDINATES]
    return wrong + [(screen, shade, x, value) for value in WRONG_COORDINATES]


def no_lists(item, most):
    """Values that are no list of 1 to so many of such items."""
    wrong = [value for value in WRONG if not isinstance(value, list) or not value]
    wrong += [0, LONG, (item,), item, {0: item}, [item] * (most + 1), [None] * (most + 1)]
    return wrong + [bayer(1), iter([item]), range(1)]


def check_lists(test, call, error, item, wrong, most):
    """A list of 1 to so many items is needed, and the number of the first wrong item is told."""
    for value in no_lists(item, most):
        raises_item(test, lambda: call(value), error, None)
    last = most - 1
    for value in wrong:
        raises_item(test, lambda: call([value]), error, 0)
        raises_item(test, lambda: call([item] * last + [value]), error, last)
        if last > 1:
            raises_item(test, lambda: call([item, value, value, item][:most]), error, 1)


def raises_item(test, call, error, item):
    """The call raises just this error with the number of an item."""
    with test.assertRaises(error) as caught:
        call()
    test.assertIs(caught.exception.__class__, error)
    test.assertIs(type(caught.exception.item), type(item))
    test.assertEqual(caught.exception.item, item)


def like_it(window, x, y, period):
    """How many places of a window are periods away from one of its first period."""
    left, top, width, height = window
    return -((left + width - x) // -period) * -((top + height - y) // -period)


def some_levels(chance, number):
    """So many levels, each in a sequence by chance."""
    return [tuple(chance.sample(range(4), 4)) for _ in range(number)]


def wrong_shades(screen):
    return WRONG + [-1, screen.shades + 1, LONG, -LONG, "9", (0,)]


def some_shades(chance, screen, number):
    """Shades at the edges and so many more."""
    edges = [0, 1, 2, screen.shades - 1, screen.shades]
    return edges + [chance.randrange(screen.shades + 1) for _ in range(number)]


def small_windows(chance, number):
    """So many windows of few places near 0."""
    windows = []
    for _ in range(number):
        corner = chance.randrange(-20, 20), chance.randrange(-20, 20)
        windows.append((*corner, chance.randrange(1, 9), chance.randrange(1, 9)))
    return windows


def far_windows(chance, number):
    """So many windows of few places, near the bounds and elsewhere."""
    windows = []
    for _ in range(number):
        corner = chance.choice(FAR_PLACES), chance.choice(FAR_PLACES)
        windows.append((*corner, *chance.sample([1, 2, 3, 4, 5], 2)))
    return windows


def parted(chance, window):
    """The window cut in two, side by side or one above the other; None if a part would be no window."""
    left, top, width, height = window
    if width > 1 and left <= 0:
        part = chance.randrange(1, width)
        return (left, top, part, height), (left + part, top, width - part, height)
    if height > 1 and top <= 0:
        part = chance.randrange(1, height)
        return (left, top, width, part), (left, top + part, width, height - part)
    return None


def great_windows(chance):
    """Windows of all sizes at the bounds and elsewhere."""
    sizes = [1, 2, 3, 2 ** 50 - 1, 2 ** 50, 2 ** 50 + 1, 2 ** 60, FAR - 1, FAR]
    windows = [(-FAR, -FAR, FAR, FAR), (FAR, FAR, FAR, FAR), (FAR, -FAR, FAR, 1), (-FAR, FAR, 1, FAR)]
    for _ in range(30):
        corner = chance.choice(FAR_PLACES), chance.randrange(-FAR, FAR + 1)
        windows.append((*chance.sample(corner, 2), chance.choice(sizes), chance.choice(sizes)))
    return windows


def check_errors(test, function, good, wrong):
    """Each wrong value of each argument raises its error, also if all behind it are wrong.

    `wrong` is for each argument a tuple of the error and the wrong values.
    """
    function(*good)
    for index, (error, values) in enumerate(wrong):
        behind = [others[0] for _, others in wrong[index + 1:]]
        for value in values:
            for rest in (good[index + 1:], behind):
                with test.subTest(function=function.__name__, index=index, value=repr(value)[:60]):
                    with test.assertRaises(error) as caught:
                        function(*good[:index], value, *rest)
                    test.assertIs(caught.exception.__class__, error)
