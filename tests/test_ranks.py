"""Points 1 to 7 and section 4: the ranks."""

import random
import unittest

from plain import (
    FAR, FAR_PLACES, LONG, ONE, WRONG, WRONG_SCREENS, WRONG_WINDOWS, check_errors, far_windows, great_windows,
    like_it, slow_threshold, small_windows, some_levels,
)

from ditherdepths.dots import dot_count
from ditherdepths.errors import InvalidNumber, InvalidScreen, InvalidWindow
from ditherdepths.ranks import least_shade, nth_threshold, shades_with, threshold_range, times_of
from ditherdepths.screens import Screen, bayer

WHOLE = (FAR, -FAR, FAR, FAR)
PLACES = FAR * FAR


def slow_ranks(levels, window):
    """All thresholds of a window in ascending sequence."""
    left, top, width, height = window
    places = [(x, y) for y in range(top, top + height) for x in range(left, left + width)]
    return sorted(slow_threshold(levels, x, y) for x, y in places)


def slow_times(screen, window):
    """How often each threshold of a small screen stands in a window, by whole periods."""
    left, top, _, _ = window
    period = screen.period
    times = [0] * screen.shades
    for x in range(left, left + period):
        for y in range(top, top + period):
            times[slow_threshold(screen.levels, x, y)] += like_it(window, x, y, period)
    return times


def some_cases(chance):
    """Small windows of screens of a few levels and of deep ones."""
    for depth in (1, 2, 3):
        levels = some_levels(chance, depth)
        for window in [ONE, *small_windows(chance, 12)]:
            yield levels, window
    for depth in (49, 50):
        levels = some_levels(chance, depth)
        for window in far_windows(chance, 12):
            yield levels, window


def some_numbers(chance, window):
    """The first, the last and other numbers of places of a window."""
    places = window[2] * window[3]
    return sorted({0, min(1, places - 1), places - 1, places // 2, chance.randrange(places)})


class NthThresholdTest(unittest.TestCase):
    def test_place_by_place(self):
        for levels, window in some_cases(random.Random(40)):
            screen = Screen(levels)
            ranks = slow_ranks(levels, window)
            told = [nth_threshold(screen, window, number) for number in range(len(ranks))]
            self.assertEqual(told, ranks, (levels, window))
            self.assertEqual(threshold_range(screen, window), (ranks[0], ranks[-1]))

    def test_small_screens_in_great_windows(self):
        chance = random.Random(41)
        for depth in (1, 2):
            screen = Screen(some_levels(chance, depth))
            for window in great_windows(chance):
                first = 0
                for threshold, many in enumerate(slow_times(screen, window)):
                    if many:
                        self.assertEqual(nth_threshold(screen, window, first), threshold)
                        self.assertEqual(nth_threshold(screen, window, first + many - 1), threshold)
                    first += many

    def test_deep_screens_in_great_windows(self):
        chance = random.Random(42)
        for depth in (13, 49, 50):
            screen = Screen(some_levels(chance, depth))
            for window in great_windows(chance):
                for number in some_numbers(chance, window):
                    threshold = nth_threshold(screen, window, number)
                    self.assertLessEqual(dot_count(screen, threshold, window), number)
                    self.assertGreater(dot_count(screen, threshold + 1, window), number)

    def test_whole_periods_have_each_threshold(self):
        chance = random.Random(43)
        for depth in (1, 7, 50):
            screen = Screen(some_levels(chance, depth))
            last = screen.shades - 1
            for left in FAR_PLACES:
                window = (left, -left, screen.period, screen.period)
                self.assertEqual(threshold_range(screen, window), (0, last))
                for number in (0, 1, last // 2, last - 1, last):
                    self.assertEqual(nth_threshold(screen, window, number), number)
            self.assertEqual(threshold_range(screen, WHOLE), (0, last))
            self.assertEqual(nth_threshold(screen, WHOLE, PLACES - 1), last)

    def test_wrong(self):
        for screen in (bayer(1), bayer(50)):
            for window, places in ((WHOLE, PLACES), (ONE, 1), ((0, 0, 3, 2), 6)):
                wrong = [
                    (InvalidScreen, WRONG_SCREENS), (InvalidWindow, WRONG_WINDOWS),
                    (InvalidNumber, WRONG + [-1, places, LONG, -LONG, "0", (0,)]),
                ]
                check_errors(self, nth_threshold, (screen, window, 0), wrong)
                check_errors(self, nth_threshold, (screen, window, places - 1), wrong)
                check_errors(self, threshold_range, (screen, window), wrong[:2])


class TimesOfTest(unittest.TestCase):
    def test_place_by_place(self):
        for levels, window in some_cases(random.Random(44)):
            screen = Screen(levels)
            ranks = slow_ranks(levels, window)
            asked = list(range(screen.shades)) if len(levels) < 4 else [0, screen.shades - 1, *ranks, ranks[0] ^ 1]
            for threshold in asked:
                self.assertEqual(times_of(screen, window, threshold), ranks.count(threshold), (levels, window))

    def test_great_windows(self):
        chance = random.Random(45)
        for depth in (1, 2, 49, 50):
            screen = Screen(some_levels(chance, depth))
            for window in great_windows(chance):
                if depth < 3:
                    told = [times_of(screen, window, threshold) for threshold in range(screen.shades)]
                    self.assertEqual(told, slow_times(screen, window))
                for threshold in (0, screen.shades - 1, chance.randrange(screen.shades)):
                    more = dot_count(screen, threshold + 1, window) - dot_count(screen, threshold, window)
                    self.assertEqual(times_of(screen, window, threshold), more)

    def test_wrong(self):
        for screen in (bayer(1), bayer(50)):
            wrong = [
                (InvalidScreen, WRONG_SCREENS), (InvalidWindow, WRONG_WINDOWS),
                (InvalidNumber, WRONG + [-1, screen.shades, LONG, -LONG, "0", (0,)]),
            ]
            check_errors(self, times_of, (screen, WHOLE, 0), wrong)
            check_errors(self, times_of, (screen, ONE, screen.shades - 1), wrong)


class ShadesTest(unittest.TestCase):
    def test_place_by_place(self):
        for levels, window in some_cases(random.Random(46)):
            screen = Screen(levels)
            ranks = slow_ranks(levels, window)
            # Only behind a threshold of the window a shade gives other dots.
            shades = sorted({0, screen.shades, *ranks, *[threshold + 1 for threshold in ranks]})
            counts = {shade: sum(threshold < shade for threshold in ranks) for shade in shades}
            for number in range(len(ranks) + 1):
                least = min(shade for shade in shades if counts[shade] >= number)
                just = [shade for shade in shades if counts[shade] == number]
                self.assertEqual(least_shade(screen, window, number), least, (levels, window, number))
                wanted = (min(just), max(just)) if just else None
                self.assertEqual(shades_with(screen, window, number), wanted, (levels, window, number))

    def test_every_shade_of_a_small_screen(self):
        screen = Screen([(3, 0, 1, 2), (1, 0, 3, 2)])
        for window in [ONE, (0, 0, 4, 4), (-3, 2, 5, 1), (1, 1, 1, 9), *small_windows(random.Random(47), 20)]:
            counts = [dot_count(screen, shade, window) for shade in range(17)]
            for number in range(window[2] * window[3] + 1):
                just = [shade for shade in range(17) if counts[shade] == number]
                least = min(shade for shade in range(17) if counts[shade] >= number)
                self.assertEqual(least_shade(screen, window, number), least)
                self.assertEqual(shades_with(screen, window, number), (just[0], just[-1]) if just else None)

    def test_great_windows(self):
        chance = random.Random(48)
        for depth in (1, 13, 49, 50):
            screen = Screen(some_levels(chance, depth))
            for window in great_windows(chance):
                numbers = [number + more for number in some_numbers(chance, window) for more in (0, 1)]
                shade = chance.randrange(screen.shades + 1)
                for number in [*numbers, dot_count(screen, shade, window)]:
                    self.check_great(screen, window, number)

    def check_great(self, screen, window, number):
        """The shades give so many dots, and those beside them do not."""
        least = least_shade(screen, window, number)
        self.assertGreaterEqual(dot_count(screen, least, window), number)
        if least:
            self.assertLess(dot_count(screen, least - 1, window), number)
        told = shades_with(screen, window, number)
        if told is None:
            self.assertGreater(dot_count(screen, least, window), number)
            return
        first, last = told
        self.assertEqual(first, least)
        self.assertLessEqual(first, last)
        self.assertEqual(dot_count(screen, first, window), number)
        self.assertEqual(dot_count(screen, last, window), number)
        if last < screen.shades:
            self.assertGreater(dot_count(screen, last + 1, window), number)

    def test_no_dot_and_all_dots(self):
        chance = random.Random(49)
        for depth in (1, 2, 50):
            screen = Screen(some_levels(chance, depth))
            for window in [ONE, *great_windows(chance)]:
                places = window[2] * window[3]
                first, last = threshold_range(screen, window)
                self.assertEqual(least_shade(screen, window, 0), 0)
                self.assertEqual(least_shade(screen, window, 1), first + 1)
                self.assertEqual(least_shade(screen, window, places), last + 1)
                self.assertEqual(shades_with(screen, window, 0), (0, first))
                self.assertEqual(shades_with(screen, window, places), (last + 1, screen.shades))

    def test_whole_periods(self):
        # Several periods have so many dots for each shade at once.
        screen = Screen(some_levels(random.Random(50), 50))
        period = screen.period
        for shade in (0, 1, screen.shades // 3, screen.shades):
            self.assertEqual(shades_with(screen, (5, -FAR, period, period), shade), (shade, shade))
            self.assertEqual(shades_with(screen, (5, -FAR, 3 * period, 5 * period), 15 * shade), (shade, shade))
        self.assertIsNone(shades_with(screen, (5, -FAR, 3 * period, 5 * period), 31))
        self.assertEqual(least_shade(screen, (5, -FAR, 3 * period, 5 * period), 31), 3)

    def test_wrong(self):
        for screen in (bayer(1), bayer(50)):
            for window, places in ((WHOLE, PLACES), (ONE, 1), ((0, 0, 3, 2), 6)):
                wrong = [
                    (InvalidScreen, WRONG_SCREENS), (InvalidWindow, WRONG_WINDOWS),
                    (InvalidNumber, WRONG + [-1, places + 1, LONG, -LONG, "0", (0,)]),
                ]
                for function in (least_shade, shades_with):
                    check_errors(self, function, (screen, window, 0), wrong)
                    check_errors(self, function, (screen, window, places), wrong)


class UnchangedTest(unittest.TestCase):
    def answers(self, screen, window):
        asked = (nth_threshold, times_of, least_shade, shades_with)
        return [threshold_range(screen, window), *[function(screen, window, 3) for function in asked]]

    def test_calls_change_nothing(self):
        screen = Screen([(0, 2, 3, 1), (1, 0, 3, 2)])
        window = (0, 0, 4, 4)
        before = self.answers(screen, window)
        for wrong in WRONG:
            for function in (nth_threshold, times_of, least_shade, shades_with):
                with self.assertRaises(InvalidNumber):
                    function(screen, window, wrong)
        self.assertEqual(self.answers(screen, window), before)
        self.assertEqual(screen.levels, [(0, 2, 3, 1), (1, 0, 3, 2)])
        self.assertEqual(window, (0, 0, 4, 4))


if __name__ == "__main__":
    unittest.main()
