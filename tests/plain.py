"""What the tests share: slow answers by the words of the document, and wrong values."""

from ditherdepths.screens import Screen

FAR = 10 ** 30
LONG = 10 ** 999


def nested(depth):
    """A list in a list, so many deep."""
    value = []
    for _ in range(depth - 1):
        value = [value]
    return value


# Values that are no integer, no screen, no level, no window.
WRONG = [
    None, True, False, "", "0", "1", b"1", (), (1,), [], [1], {}, {1: 1}, set(), {1}, frozenset([1]),
    object(), int, len, range(4), Screen, nested(40), iter([1]), ValueError("1"),
]


def slow_digit(number, index):
    """A binary digit by the words of point 5."""
    if number < 0:
        number += 2 ** 250
    return int(bin(number)[2:].zfill(300)[::-1][index])


def slow_threshold(levels, x, y):
    """The threshold of a place by the words of point 5."""
    digits = ""
    for index, (a, b, c, d) in enumerate(levels):
        pair = (slow_digit(x, index), slow_digit(y, index))
        digits += str({(0, 0): a, (1, 0): b, (0, 1): c, (1, 1): d}[pair])
    return int(digits, 4)


def slow_dots(levels, shade, window):
    """All dots of a window in the reading sequence."""
    left, top, width, height = window
    return [
        (x, y)
        for y in range(top, top + height)
        for x in range(left, left + width)
        if slow_threshold(levels, x, y) < shade
    ]


def some_levels(chance, number):
    """So many levels, each in a sequence by chance."""
    return [tuple(chance.sample(range(4), 4)) for _ in range(number)]


def check_errors(test, function, good, wrong):
    """Each wrong value of each argument raises its error, also if all behind it are wrong.

    `wrong` is for each argument a tuple of the error and the wrong values.
    """
    function(*good)
    for index, (error, values) in enumerate(wrong):
        behind = [others[0] for _, others in wrong[index + 1:]]
        for value in values:
            for rest in (good[index + 1:], behind):
                with test.subTest(function=function.__name__, index=index, value=repr(value)[:60]):
                    with test.assertRaises(error) as caught:
                        function(*good[:index], value, *rest)
                    test.assertIs(caught.exception.__class__, error)
