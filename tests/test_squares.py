"""Points 1 to 6 and 8, and section 5: the squares."""

import random
import unittest

from plain import (
    FAR, FAR_PLACES, LONG, ONE, WRONG, WRONG_COORDINATES, WRONG_SCREENS, WRONG_WINDOWS, check_errors, far_windows,
    great_windows, like_it, parted, slow_table, slow_threshold, small_windows, some_levels, some_shades,
    wrong_shades,
)

from ditherdepths.dots import dot_count, is_dot
from ditherdepths.errors import InvalidPlace, InvalidScreen, InvalidShade, InvalidSide, InvalidWindow
from ditherdepths.screens import Screen, bayer
from ditherdepths.squares import even_part, first_fuller, fuller_count, is_fuller

WHOLE = (FAR, -FAR, FAR, FAR)


def slow_counts(levels, shade, side):
    """The numbers of dots of the squares at all places of the first period, row by row."""
    period = 2 ** len(levels)
    table = slow_table(levels)
    steps = range(2 ** side)
    return [
        [sum(table[(y + n) % period][(x + m) % period] < shade for n in steps for m in steps) for x in range(period)]
        for y in range(period)
    ]


def slow_fuller(levels, shade, side, x, y):
    """Whether a square is fuller by the words of point 8."""
    unit = 4 ** (len(levels) - side)
    quotient, rest = divmod(shade, unit)
    if quotient == 4 ** side:
        return False
    digits = [quotient // 4 ** (side - 1 - index) % 4 for index in range(side)]
    across = sum((level.index(digit) % 2) << index for index, (level, digit) in enumerate(zip(levels, digits)))
    down = sum((level.index(digit) // 2) << index for index, (level, digit) in enumerate(zip(levels, digits)))
    length = 2 ** side
    place = x + (across - x) % length, y + (down - y) % length
    threshold = slow_threshold(levels, *place)
    assert threshold // unit == quotient
    return threshold % unit < rest


class SmallTest(unittest.TestCase):
    def check_screen(self, levels, shade, side):
        """All squares of the first period have q or q + 1 dots, and the answers tell which."""
        screen = Screen(levels)
        period = screen.period
        least, rest = divmod(shade, 4 ** (len(levels) - side))
        counts = slow_counts(levels, shade, side)
        self.assertEqual(even_part(screen, shade, side), least)
        self.assertEqual(min(min(row) for row in counts), least)
        fuller = 0
        for y in range(period):
            for x in range(period):
                self.assertIn(counts[y][x] - least, (0, 1))
                told = is_fuller(screen, shade, side, x - period, y + period)
                self.assertIs(told, counts[y][x] > least)
                fuller += told
        self.assertEqual(fuller_count(screen, shade, side, (3, -5, period, period)), fuller)
        self.assertEqual(fuller, rest * 4 ** side)

    def test_every_shade_and_side(self):
        chance = random.Random(60)
        for depth in (1, 2):
            levels = some_levels(chance, depth)
            for shade in range(4 ** depth + 1):
                for side in range(depth + 1):
                    self.check_screen(levels, shade, side)

    def test_three_levels(self):
        chance = random.Random(61)
        levels = some_levels(chance, 3)
        for shade in [0, 1, 15, 16, 17, 32, 63, 64, chance.randrange(64)]:
            for side in range(4):
                self.check_screen(levels, shade, side)

    def test_windows(self):
        chance = random.Random(62)
        for depth in (1, 2, 3):
            levels = some_levels(chance, depth)
            screen = Screen(levels)
            for window in [ONE, *small_windows(chance, 25)]:
                shade = chance.randrange(screen.shades + 1)
                for side in range(depth + 1):
                    self.check_window(screen, shade, side, window)

    def test_windows_of_deep_screens(self):
        chance = random.Random(63)
        for depth in (49, 50):
            screen = Screen(some_levels(chance, depth))
            for window in far_windows(chance, 12):
                for shade in some_shades(chance, screen, 2):
                    self.check_window(screen, shade, chance.choice([0, 1, 2, 30, depth - 1, depth]), window)

    def check_window(self, screen, shade, side, window):
        """The count and the first one are those of going place by place."""
        left, top, width, height = window
        places = [(x, y) for y in range(top, top + height) for x in range(left, left + width)]
        fuller = [(x, y) for x, y in places if slow_fuller(screen.levels, shade, side, x, y)]
        asked = (screen.levels, shade, side, window)
        self.assertEqual(fuller_count(screen, shade, side, window), len(fuller), asked)
        self.assertEqual(first_fuller(screen, shade, side, window), fuller[0] if fuller else None, asked)


class DeepTest(unittest.TestCase):
    def test_squares_by_the_words_of_point_8(self):
        chance = random.Random(64)
        for depth in (13, 49, 50):
            levels = some_levels(chance, depth)
            screen = Screen(levels)
            for _ in range(60):
                shade = chance.choice(some_shades(chance, screen, 20))
                side = chance.choice([0, 1, depth - 1, depth, chance.randrange(depth + 1)])
                x, y = chance.choice(FAR_PLACES), chance.choice(FAR_PLACES)
                told = is_fuller(screen, shade, side, x, y)
                self.assertIs(told, slow_fuller(levels, shade, side, x, y))
                least = even_part(screen, shade, side)
                self.assertEqual(least, shade // 4 ** (depth - side))
                self.assertEqual(dot_count(screen, shade, (x, y, 2 ** side, 2 ** side)), least + told)
                self.assertEqual(fuller_count(screen, shade, side, (x, y, 1, 1)), int(told))
                self.assertEqual(first_fuller(screen, shade, side, (x, y, 1, 1)), (x, y) if told else None)

    def test_squares_that_just_reach_or_miss_a_dot(self):
        # By this shade just one place of a period has a dot that not all squares of the side have.
        chance = random.Random(65)
        for depth, side in ((2, 1), (13, 5), (50, 1), (50, 25), (50, 49)):
            screen = Screen(some_levels(chance, depth))
            unit = 4 ** (depth - side)
            quotient = chance.randrange(4 ** side)
            x, y = screen.place(quotient * unit)
            length = 2 ** side
            shade = quotient * unit + 1
            for across in (-length, 1 - length, -1, 0, 1):
                for down in (-length, 1 - length, -1, 0, 1):
                    wanted = across in range(1 - length, 1) and down in range(1 - length, 1)
                    self.assertIs(is_fuller(screen, shade, side, x + across, y + down), wanted)
                    window = (x + across, y + down, 1, 1)
                    self.assertEqual(fuller_count(screen, shade, side, window), int(wanted))
            window = (x - length - 3, y - length - 3, 9 + 2 * length, 9 + 2 * length)
            if depth - side > 5:
                self.assertEqual(fuller_count(screen, shade, side, window), 4 ** side)
                self.assertEqual(first_fuller(screen, shade, side, window), (x + 1 - length, y + 1 - length))

    def test_side_0_and_the_depth(self):
        chance = random.Random(66)
        for depth in (1, 2, 50):
            screen = Screen(some_levels(chance, depth))
            for shade in some_shades(chance, screen, 3):
                whole = shade == screen.shades
                self.assertEqual(even_part(screen, shade, 0), int(whole))
                self.assertEqual(even_part(screen, shade, depth), shade)
                for window in great_windows(chance)[:8]:
                    dots = 0 if whole else dot_count(screen, shade, window)
                    self.assertEqual(fuller_count(screen, shade, 0, window), dots)
                    self.assertEqual(fuller_count(screen, shade, depth, window), 0)
                    self.assertIsNone(first_fuller(screen, shade, depth, window))
                for x in FAR_PLACES:
                    dot = not whole and is_dot(screen, shade, x, -x)
                    self.assertIs(is_fuller(screen, shade, 0, x, -x), dot)
                    self.assertIs(is_fuller(screen, shade, depth, x, -x), False)

    def test_no_dot_and_all_dots(self):
        chance = random.Random(67)
        for depth in (1, 3, 50):
            screen = Screen(some_levels(chance, depth))
            for side in sorted({0, 1, depth // 2, depth}):
                for shade, least in ((0, 0), (screen.shades, 4 ** side)):
                    self.assertEqual(even_part(screen, shade, side), least)
                    self.assertIs(is_fuller(screen, shade, side, FAR, -FAR), False)
                    self.assertEqual(fuller_count(screen, shade, side, WHOLE), 0)
                    self.assertIsNone(first_fuller(screen, shade, side, WHOLE))


class GreatWindowsTest(unittest.TestCase):
    def some_cases(self, chance):
        for depth in (1, 2, 13, 49, 50):
            screen = Screen(some_levels(chance, depth))
            for window in great_windows(chance):
                shade = chance.choice(some_shades(chance, screen, 20))
                yield screen, shade, chance.randrange(depth + 1), window

    def test_in_parts(self):
        chance = random.Random(68)
        for screen, shade, side, window in self.some_cases(chance):
            parts = parted(chance, window)
            if parts:
                counts = [fuller_count(screen, shade, side, part) for part in parts]
                self.assertEqual(fuller_count(screen, shade, side, window), sum(counts))

    def test_periods(self):
        # All squares of a period have together each of its dots once for each of their places.
        chance = random.Random(69)
        for screen, shade, side, window in self.some_cases(chance):
            rest = shade % 4 ** (screen.depth - side)
            period = screen.period
            whole = (window[0], window[1], 3 * period, 5 * period)
            self.assertEqual(fuller_count(screen, shade, side, whole), 15 * rest * 4 ** side)

    def test_by_whole_periods(self):
        # Behind whole periods there is what a small screen shows place by place.
        chance = random.Random(70)
        for depth in (1, 2, 3):
            levels = some_levels(chance, depth)
            screen = Screen(levels)
            period = screen.period
            for window in great_windows(chance):
                left, top, _, _ = window
                shade, side = chance.randrange(screen.shades), chance.randrange(depth + 1)
                places = [(x, y) for x in range(left, left + period) for y in range(top, top + period)]
                fuller = [(x, y) for x, y in places if slow_fuller(levels, shade, side, x, y)]
                expected = sum(like_it(window, x, y, period) for x, y in fuller)
                self.assertEqual(fuller_count(screen, shade, side, window), expected)

    def test_first(self):
        chance = random.Random(71)
        found = 0
        for screen, shade, side, window in self.some_cases(chance):
            left, top, width, height = window
            place = first_fuller(screen, shade, side, window)
            many = fuller_count(screen, shade, side, window)
            self.assertEqual(place is None, many == 0)
            if place is None:
                continue
            found += 1
            x, y = place
            self.assertTrue(left <= x < left + width and top <= y < top + height)
            self.assertTrue(slow_fuller(screen.levels, shade, side, x, y))
            if y > top:
                self.assertEqual(fuller_count(screen, shade, side, (left, top, width, y - top)), 0)
            if x > left:
                # The row itself may be beyond the bounds, one like it is not.
                self.assertEqual(fuller_count(screen, shade, side, (left, y % screen.period, x - left, 1)), 0)
        self.assertGreater(found, 30)


class WrongTest(unittest.TestCase):
    def test_wrong(self):
        for screen in (bayer(1), bayer(50)):
            sides = WRONG + [-1, screen.depth + 1, LONG, -LONG, "0", (0,)]
            wrong = [(InvalidScreen, WRONG_SCREENS), (InvalidShade, wrong_shades(screen)), (InvalidSide, sides)]
            places = [(InvalidPlace, WRONG_COORDINATES), (InvalidPlace, WRONG_COORDINATES)]
            windows = [(InvalidWindow, WRONG_WINDOWS)]
            for good in ((screen, 0, 0), (screen, screen.shades, screen.depth)):
                check_errors(self, even_part, good, wrong)
                check_errors(self, is_fuller, (*good, -FAR, FAR), wrong + places)
                check_errors(self, fuller_count, (*good, WHOLE), wrong + windows)
                check_errors(self, first_fuller, (*good, WHOLE), wrong + windows)

    def test_calls_change_nothing(self):
        screen = Screen([(0, 2, 3, 1), (1, 0, 3, 2)])
        window = (0, 0, 4, 4)

        def answers():
            counted = fuller_count(screen, 9, 1, window), first_fuller(screen, 9, 1, window)
            return even_part(screen, 9, 1), is_fuller(screen, 9, 1, 0, 0), counted

        before = answers()
        for value in WRONG:
            with self.assertRaises(InvalidSide):
                fuller_count(screen, 9, value, window)
            with self.assertRaises(InvalidWindow):
                first_fuller(screen, 9, 1, value)
        self.assertEqual(answers(), before)
        self.assertEqual(screen.levels, [(0, 2, 3, 1), (1, 0, 3, 2)])
        self.assertEqual(window, (0, 0, 4, 4))


if __name__ == "__main__":
    unittest.main()
