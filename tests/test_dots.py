"""Points 1 to 7 and section 3: the dots."""

import random
import unittest

from plain import (
    FAR, FAR_PLACES, LONG, ONE, WRONG, WRONG_COORDINATES, WRONG_SCREENS, WRONG_WINDOWS, check_errors, great_windows,
    like_it, slow_dots, slow_threshold, some_levels, some_shades, wrong_shades,
)

from ditherdepths.dots import dot_count, is_dot, nth_dot
from ditherdepths.errors import InvalidNumber, InvalidPlace, InvalidScreen, InvalidShade, InvalidWindow
from ditherdepths.screens import Screen, bayer, first_levels, flipped, mirrored, transposed


class IsDotTest(unittest.TestCase):
    def test_small_screens(self):
        chance = random.Random(20)
        for depth in (1, 2):
            levels = some_levels(chance, depth)
            screen = Screen(levels)
            for shade in range(screen.shades + 1):
                for x in range(-5, 6):
                    for y in range(-5, 6):
                        told = is_dot(screen, shade, x, y)
                        self.assertIs(told, slow_threshold(levels, x, y) < shade)

    def test_great_places(self):
        chance = random.Random(21)
        levels = some_levels(chance, 50)
        screen = Screen(levels)
        for x in FAR_PLACES:
            for y in FAR_PLACES:
                threshold = slow_threshold(levels, x, y)
                self.assertIs(is_dot(screen, threshold, x, y), False)
                self.assertIs(is_dot(screen, threshold + 1, x, y), True)
                self.assertIs(is_dot(screen, 0, x, y), False)
                self.assertIs(is_dot(screen, screen.shades, x, y), True)

    def test_wrong(self):
        for screen in (bayer(1), bayer(50)):
            wrong = [
                (InvalidScreen, WRONG_SCREENS), (InvalidShade, wrong_shades(screen)),
                (InvalidPlace, WRONG_COORDINATES), (InvalidPlace, WRONG_COORDINATES),
            ]
            check_errors(self, is_dot, (screen, screen.shades, -FAR, FAR), wrong)


class DotCountTest(unittest.TestCase):
    def test_small_screens(self):
        chance = random.Random(22)
        for depth in (1, 2, 3):
            levels = some_levels(chance, depth)
            screen = Screen(levels)
            for shade in some_shades(chance, screen, 10):
                for _ in range(12):
                    place = chance.randrange(-20, 20), chance.randrange(-20, 20)
                    window = (*place, chance.randrange(1, 15), chance.randrange(1, 15))
                    told = dot_count(screen, shade, window)
                    self.assertEqual(told, len(slow_dots(levels, shade, window)), (levels, shade, window))

    def test_every_small_window_near_a_period(self):
        levels = [(3, 0, 1, 2), (1, 0, 3, 2)]
        screen = Screen(levels)
        for shade in (1, 6, 15):
            for left in (-5, -4, -1, 0, 3, 4):
                for width in (1, 3, 4, 5):
                    window = (left, -left, width, 6 - width)
                    self.assertEqual(dot_count(screen, shade, window), len(slow_dots(levels, shade, window)))

    def test_small_windows_of_deep_screens(self):
        chance = random.Random(23)
        for depth in (49, 50):
            levels = some_levels(chance, depth)
            screen = Screen(levels)
            for _ in range(40):
                window = (chance.choice(FAR_PLACES), chance.choice(FAR_PLACES), *chance.sample([1, 2, 3, 4, 5], 2))
                for shade in some_shades(chance, screen, 2):
                    self.assertEqual(dot_count(screen, shade, window), len(slow_dots(levels, shade, window)))

    def test_one_place(self):
        levels = some_levels(random.Random(24), 50)
        screen = Screen(levels)
        for x in FAR_PLACES:
            for y in FAR_PLACES:
                threshold = slow_threshold(levels, x, y)
                self.assertEqual(dot_count(screen, threshold, (x, y, 1, 1)), 0)
                self.assertEqual(dot_count(screen, threshold + 1, (x, y, 1, 1)), 1)

    def test_periods(self):
        # A period has as many dots as the shade says, wherever it begins.
        chance = random.Random(25)
        for depth in (1, 7, 49, 50):
            screen = Screen(some_levels(chance, depth))
            period = screen.period
            for shade in some_shades(chance, screen, 5):
                for left in FAR_PLACES:
                    self.assertEqual(dot_count(screen, shade, (left, -left, period, period)), shade)
                self.assertEqual(dot_count(screen, shade, (5, -FAR, 3 * period, 7 * period)), 21 * shade)

    def test_shades_0_and_the_greatest(self):
        for window in great_windows(random.Random(26)):
            for screen in (bayer(1), bayer(50)):
                self.assertEqual(dot_count(screen, 0, window), 0)
                self.assertEqual(dot_count(screen, screen.shades, window), window[2] * window[3])

    def test_great_windows_in_parts(self):
        chance = random.Random(27)
        for depth in (1, 13, 49, 50):
            screen = Screen(some_levels(chance, depth))
            for left, top, width, height in great_windows(chance):
                shade = chance.randrange(screen.shades + 1)
                whole = dot_count(screen, shade, (left, top, width, height))
                if width > 1 and left <= 0:
                    part = chance.randrange(1, width)
                    first = dot_count(screen, shade, (left, top, part, height))
                    self.assertEqual(whole, first + dot_count(screen, shade, (left + part, top, width - part, height)))
                if height > 1 and top <= 0:
                    part = chance.randrange(1, height)
                    first = dot_count(screen, shade, (left, top, width, part))
                    self.assertEqual(whole, first + dot_count(screen, shade, (left, top + part, width, height - part)))

    def test_great_windows_by_whole_periods(self):
        # Behind whole periods there is what a small screen shows place by place.
        chance = random.Random(28)
        for depth in (1, 2, 3):
            levels = some_levels(chance, depth)
            screen = Screen(levels)
            period = screen.period
            for window in great_windows(chance):
                shade = chance.randrange(screen.shades + 1)
                dots = slow_dots(levels, shade, (*window[:2], period, period))
                expected = sum(like_it(window, x, y, period) for x, y in dots)
                self.assertEqual(dot_count(screen, shade, window), expected, (levels, shade, window))

    def test_mirrored_windows(self):
        chance = random.Random(29)
        screen = Screen(some_levels(chance, 50))
        for window in great_windows(chance):
            left, top, width, height = window
            if left > 0 or top > 0:
                continue
            shade = chance.randrange(screen.shades)
            whole = dot_count(screen, shade, window)
            across = (-left - width, top, width, height)
            down = (left, -top - height, width, height)
            self.assertEqual(dot_count(mirrored(screen), shade, across), whole)
            self.assertEqual(dot_count(flipped(screen), shade, down), whole)
            self.assertEqual(dot_count(transposed(screen), shade, (top, left, height, width)), whole)

    def test_shades_of_first_levels(self):
        chance = random.Random(30)
        screen = Screen(some_levels(chance, 50))
        for window in great_windows(chance):
            number = chance.randrange(1, 51)
            coarse = first_levels(screen, number)
            shade = chance.randrange(coarse.shades + 1)
            self.assertEqual(dot_count(screen, shade * 4 ** (50 - number), window), dot_count(coarse, shade, window))

    def test_wrong(self):
        for screen in (bayer(1), bayer(50)):
            wrong = [
                (InvalidScreen, WRONG_SCREENS), (InvalidShade, wrong_shades(screen)), (InvalidWindow, WRONG_WINDOWS),
            ]
            check_errors(self, dot_count, (screen, screen.shades, (FAR, -FAR, FAR, FAR)), wrong)


class NthDotTest(unittest.TestCase):
    def test_small_screens(self):
        chance = random.Random(31)
        for depth in (1, 2, 3):
            levels = some_levels(chance, depth)
            screen = Screen(levels)
            for shade in some_shades(chance, screen, 6):
                for _ in range(6):
                    place = chance.randrange(-20, 20), chance.randrange(-20, 20)
                    window = (*place, chance.randrange(1, 12), chance.randrange(1, 12))
                    dots = slow_dots(levels, shade, window)
                    told = [nth_dot(screen, shade, window, number) for number in range(len(dots) + 2)]
                    self.assertEqual(told, dots + [None, None], (levels, shade, window))

    def test_small_windows_of_deep_screens(self):
        chance = random.Random(32)
        levels = some_levels(chance, 50)
        screen = Screen(levels)
        for _ in range(20):
            window = (chance.choice(FAR_PLACES), chance.choice(FAR_PLACES), *chance.sample([1, 2, 3, 4, 5], 2))
            for shade in some_shades(chance, screen, 1):
                dots = slow_dots(levels, shade, window)
                told = [nth_dot(screen, shade, window, number) for number in range(len(dots) + 1)]
                self.assertEqual(told, dots + [None])

    def check_great(self, screen, shade, window, number):
        """The dot is one, and just so many stand ahead of it."""
        left, top, width, height = window
        x, y = nth_dot(screen, shade, window, number)
        self.assertTrue(left <= x < left + width and top <= y < top + height)
        self.assertLess(slow_threshold(screen.levels, x, y), shade)
        ahead = 0
        if y > top:
            ahead += dot_count(screen, shade, (left, top, width, y - top))
        if x > left:
            # The row itself may be beyond the bounds, one like it is not.
            ahead += dot_count(screen, shade, (left, y % screen.period, x - left, 1))
        self.assertEqual(ahead, number)

    def test_great_windows(self):
        chance = random.Random(33)
        for depth in (1, 13, 49, 50):
            screen = Screen(some_levels(chance, depth))
            for window in great_windows(chance):
                shade = chance.randrange(1, screen.shades + 1)
                many = dot_count(screen, shade, window)
                self.assertIsNone(nth_dot(screen, shade, window, many))
                self.assertIsNone(nth_dot(screen, shade, window, many + FAR ** 2))
                if many:
                    for number in (0, many - 1, chance.randrange(many)):
                        self.check_great(screen, shade, window, number)

    def test_first_and_last(self):
        for screen in (bayer(1), bayer(50)):
            window = (-FAR, -FAR, FAR, FAR)
            last = FAR * FAR - 1
            self.assertEqual(nth_dot(screen, screen.shades, window, 0), (-FAR, -FAR))
            self.assertEqual(nth_dot(screen, screen.shades, window, FAR - 1), (-1, -FAR))
            self.assertEqual(nth_dot(screen, screen.shades, window, FAR), (-FAR, 1 - FAR))
            self.assertEqual(nth_dot(screen, screen.shades, window, last), (-1, -1))
            self.assertIsNone(nth_dot(screen, screen.shades, window, last + 1))
            self.assertIsNone(nth_dot(screen, 0, window, 0))

    def test_a_place_beyond_the_bounds(self):
        # A window may reach beyond them, but such a place is refused (point 3).
        four = bayer(2)
        place = nth_dot(four, 16, (FAR, FAR, 2, 2), 3)
        self.assertEqual(place, (FAR + 1, FAR + 1))
        with self.assertRaises(InvalidPlace):
            is_dot(four, 16, *place)
        with self.assertRaises(InvalidPlace):
            four.threshold(*place)

    def test_the_only_dot_of_a_deep_screen(self):
        chance = random.Random(34)
        screen = Screen(some_levels(chance, 50))
        x, y = screen.place(0)
        period = screen.period
        self.assertEqual(nth_dot(screen, 1, (0, 0, period, period), 0), (x, y))
        self.assertIsNone(nth_dot(screen, 1, (0, 0, period, period), 1))
        self.assertEqual(nth_dot(screen, 1, (0, 0, 2 * period, 2 * period), 3), (x + period, y + period))

    def test_wrong(self):
        numbers = WRONG + [-1, -FAR, -LONG, "0", (0,)]
        for screen in (bayer(1), bayer(50)):
            wrong = [
                (InvalidScreen, WRONG_SCREENS), (InvalidShade, wrong_shades(screen)),
                (InvalidWindow, WRONG_WINDOWS), (InvalidNumber, numbers),
            ]
            check_errors(self, nth_dot, (screen, 1, (-FAR, FAR, FAR, FAR), 0), wrong)
        self.assertIsNone(nth_dot(bayer(1), 4, ONE, LONG))


class UnchangedTest(unittest.TestCase):
    def test_calls_change_nothing(self):
        screen = Screen([(0, 2, 3, 1), (1, 0, 3, 2)])
        window = (0, 0, 4, 4)
        before = [dot_count(screen, 6, window), nth_dot(screen, 6, window, 2), is_dot(screen, 6, 1, 1)]
        for wrong in WRONG:
            with self.assertRaises(InvalidShade):
                dot_count(screen, wrong, window)
            with self.assertRaises(InvalidNumber):
                nth_dot(screen, 6, window, wrong)
        after = [dot_count(screen, 6, window), nth_dot(screen, 6, window, 2), is_dot(screen, 6, 1, 1)]
        self.assertEqual(before, after)
        self.assertEqual(screen.levels, [(0, 2, 3, 1), (1, 0, 3, 2)])
        self.assertEqual(window, (0, 0, 4, 4))


if __name__ == "__main__":
    unittest.main()
