"""Points 1 to 7, 10 and 11, and section 10: when two screens show the same."""

import random
import unittest
from itertools import permutations, product

from plain import (
    FAR, FAR_PLACES, LONG, ONE, WRONG, WRONG_COORDINATES, WRONG_SCREENS, WRONG_WINDOWS, check_errors, far_windows,
    great_windows, like_it, parted, slow_threshold, small_dots, small_windows, some_levels, some_shades, wrong_shades,
)

from ditherdepths.alike import first_unlike, moved, same_dots, shift_between, unlike_count
from ditherdepths.errors import InvalidPlace, InvalidScreen, InvalidShade, InvalidWindow
from ditherdepths.inks import ink_counts
from ditherdepths.screens import Screen, bayer, first_levels, stacked

WHOLE = (FAR, -FAR, FAR, FAR)


def some_pair(chance, depths):
    """Two screens of these depths, each with a shade."""
    pair = []
    for depth in depths:
        screen = Screen(some_levels(chance, depth))
        pair += [screen, chance.choice(some_shades(chance, screen, 8))]
    return pair


def slow_unlike(screen, shade, second, second_shade, window):
    """All places of a window that have not the same by both, in the reading sequence."""
    left, top, width, height = window
    places = [(x, y) for y in range(top, top + height) for x in range(left, left + width)]
    return [
        (x, y)
        for x, y in places
        if (slow_threshold(screen.levels, x, y) < shade) != (slow_threshold(second.levels, x, y) < second_shade)
    ]


class SameDotsTest(unittest.TestCase):
    def test_screens_of_one_and_two_levels(self):
        chance = random.Random(220)
        period = list(product(range(4), range(4)))
        for _ in range(12):
            levels = [some_levels(chance, number) for number in (1, 2)]
            levels.append([levels[0][0], *some_levels(chance, 1)])
            levels.append([levels[1][0], *some_levels(chance, 1)])
            shown = {}
            for index, some in enumerate(levels):
                for shade in range(4 ** len(some) + 1):
                    dot = small_dots(some, shade)
                    shown[index, shade] = [dot(x, y) for x, y in period]
            for (one, shade), (other, second_shade) in product(shown, shown):
                told = same_dots(Screen(levels[one]), shade, Screen(levels[other]), second_shade)
                self.assertIs(told, shown[one, shade] == shown[other, second_shade])

    def test_the_same_fraction(self):
        chance = random.Random(221)
        for depth in (2, 3, 49, 50):
            screen = Screen(some_levels(chance, depth))
            for number in sorted({1, depth // 2, depth - 1, depth}):
                coarse = first_levels(screen, number)
                times = 4 ** (depth - number)
                for shade in some_shades(chance, coarse, 4):
                    self.assertIs(same_dots(screen, shade * times, coarse, shade), True)
                    self.assertIs(same_dots(coarse, shade, screen, shade * times), True)
                    self.assertIsNone(first_unlike(coarse, shade, screen, shade * times, WHOLE))
                    self.assertEqual(unlike_count(coarse, shade, screen, shade * times, WHOLE), 0)
                    if number < depth:
                        # One dot a period more than the first levels show, or less.
                        more = shade * times + (1 if shade < coarse.shades else -1)
                        self.assertIs(same_dots(screen, more, coarse, shade), False)
                        window = (-FAR, 5, 3 * screen.period, screen.period)
                        self.assertEqual(unlike_count(coarse, shade, screen, more, window), 3)

    def test_no_dot_and_all_dots(self):
        chance = random.Random(222)
        for first, second in product((1, 2, 49, 50), repeat=2):
            one, other = Screen(some_levels(chance, first)), Screen(some_levels(chance, second))
            self.assertIs(same_dots(one, 0, other, 0), True)
            self.assertIs(same_dots(one, one.shades, other, other.shades), True)
            self.assertIs(same_dots(one, 0, other, other.shades), False)
            self.assertEqual(unlike_count(one, 0, other, other.shades, WHOLE), FAR * FAR)
            self.assertEqual(first_unlike(one, 0, other, other.shades, WHOLE), (FAR, -FAR))

    def test_the_same_screen(self):
        chance = random.Random(223)
        for depth in (1, 2, 49, 50):
            screen = Screen(some_levels(chance, depth))
            for shade, other in product(some_shades(chance, screen, 2), repeat=2):
                self.assertIs(same_dots(screen, shade, Screen(screen.levels), other), shade == other)
                window = (FAR, -FAR, screen.period, 2 * screen.period)
                self.assertEqual(unlike_count(screen, shade, screen, other, window), 2 * abs(shade - other))

    def test_unlike_in_the_last_level_alone(self):
        chance = random.Random(224)
        for depth in (1, 2, 49, 50):
            coarser = some_levels(chance, depth - 1)
            one, other = Screen([*coarser, (0, 1, 2, 3)]), Screen([*coarser, (0, 1, 3, 2)])
            for _ in range(10):
                shade = 4 * chance.randrange(4 ** (depth - 1))
                for digit, same in ((0, True), (1, True), (2, True), (3, False), (4, True)):
                    told = same_dots(one, shade + digit, other, shade + digit)
                    self.assertIs(told, same, (depth, shade, digit))
                    window = (-FAR, FAR, one.period, one.period)
                    many = unlike_count(one, shade + digit, other, shade + digit, window)
                    self.assertEqual(many, 0 if same else 2)


class UnlikeTest(unittest.TestCase):
    def test_place_by_place(self):
        chance = random.Random(225)
        for _ in range(100):
            pair = some_pair(chance, [chance.choice([1, 2, 3, 49, 50]) for _ in range(2)])
            if chance.random() < 0.3:
                pair[2] = stacked(first_levels(pair[0], 1), bayer(2))
                pair[3] = chance.randrange(65)
            for window in [*small_windows(chance, 2), *far_windows(chance, 1), (*chance.sample(FAR_PLACES, 2), 1, 1)]:
                places = slow_unlike(*pair, window)
                self.assertEqual(unlike_count(*pair, window), len(places), (pair, window))
                self.assertEqual(first_unlike(*pair, window), places[0] if places else None, (pair, window))

    def test_great_windows_by_whole_periods(self):
        chance = random.Random(226)
        for window in great_windows(chance):
            left, top, width, height = window
            pair = some_pair(chance, chance.sample([1, 2, 3], 2))
            places = slow_unlike(*pair, (left, top, 8, 8))
            self.assertEqual(unlike_count(*pair, window), sum(like_it(window, x, y, 8) for x, y in places))
            there = [(x, y) for x, y in places if x < left + width and y < top + height]
            self.assertEqual(first_unlike(*pair, window), there[0] if there else None)

    def test_by_inks(self):
        chance = random.Random(227)
        for _ in range(40):
            one, shade, other, second = some_pair(chance, [chance.choice([1, 2, 13, 49, 50]) for _ in range(2)])
            window = chance.choice(great_windows(chance))
            counts = ink_counts([(one, shade, 0, 0), (other, second, 0, 0)], window)
            self.assertEqual(unlike_count(one, shade, other, second, window), counts[1] + counts[2])
            self.assertEqual(unlike_count(other, second, one, shade, window), counts[1] + counts[2])

    def test_in_parts(self):
        chance = random.Random(228)
        for _ in range(40):
            pair = some_pair(chance, chance.choice([(50, 49), (49, 50), (1, 50), (50, 50)]))
            window = chance.choice(great_windows(chance))
            parts = parted(chance, window)
            if parts:
                self.assertEqual(unlike_count(*pair, window), sum(unlike_count(*pair, part) for part in parts))

    def test_none_stands_ahead_of_the_first_one(self):
        chance = random.Random(229)
        found = 0
        for _ in range(60):
            depth = chance.choice([2, 13, 49, 50])
            screen = Screen(some_levels(chance, depth))
            # Screens that are nearly alike have their first unlike place far off.
            coarser = chance.randrange(1, min(depth, 60))
            other = stacked(first_levels(screen, coarser), Screen(some_levels(chance, depth - coarser)))
            shade = chance.randrange(screen.shades)
            left, top, width, height = chance.choice(great_windows(chance))
            place = first_unlike(screen, shade, other, shade, (left, top, width, height))
            if place is None:
                self.assertEqual(unlike_count(screen, shade, other, shade, (left, top, width, height)), 0)
                continue
            found += 1
            x, y = place
            here, there = [slow_threshold(one.levels, x, y) < shade for one in (screen, other)]
            self.assertNotEqual(here, there)
            if y > top:
                self.assertEqual(unlike_count(screen, shade, other, shade, (left, top, width, y - top)), 0)
            if x > left:
                row = y % screen.period
                self.assertEqual(unlike_count(screen, shade, other, shade, (left, row, x - left, 1)), 0)
        self.assertGreater(found, 10)

    def test_one_unlike_place_in_a_period(self):
        chance = random.Random(230)
        screen = Screen(some_levels(chance, 50))
        x, y = screen.place(12345)
        period = screen.period
        self.assertEqual(first_unlike(screen, 12345, screen, 12346, (0, 0, period, period)), (x, y))
        self.assertEqual(first_unlike(screen, 12345, screen, 12346, (-period, -period, FAR, FAR)), (x - period, y - period))
        self.assertIsNone(first_unlike(screen, 12345, screen, 12346, (0, 0, period, y)))

    def test_places_beyond_the_bounds(self):
        window = (FAR, FAR, 4, 4)
        places = slow_unlike(bayer(2), 1, bayer(2), 2, window)
        self.assertEqual(first_unlike(bayer(2), 1, bayer(2), 2, window), places[0])
        self.assertEqual(unlike_count(bayer(2), 1, bayer(2), 2, window), 1)


class MovedTest(unittest.TestCase):
    def test_every_move_of_small_screens(self):
        # All screens of two levels are asked whether they are the moved one.
        chance = random.Random(231)
        tables = {}
        for levels in product(permutations(range(4)), repeat=2):
            table = [slow_threshold(levels, x, y) for x, y in product(range(4), range(4))]
            tables[tuple(table)] = list(levels)
        for _ in range(6):
            levels = some_levels(chance, 2)
            for x, y in product(range(-4, 6), repeat=2):
                table = [slow_threshold(levels, right - x, down - y) for right, down in product(range(4), range(4))]
                told = moved(Screen(levels), x, y)
                expected = tables.get(tuple(table))
                self.assertEqual(told and told.levels, expected, (levels, x, y))

    def test_one_level(self):
        for level in permutations(range(4)):
            screen = Screen([level])
            for x, y in product([-2, -1, 0, 1, 2, 3, FAR, -FAR, FAR - 1, 1 - FAR], repeat=2):
                told = moved(screen, x, y)
                for right, down in product((0, 1), repeat=2):
                    self.assertEqual(told.threshold(right, down), slow_threshold([level], right - x, down - y))

    def test_deep_screens(self):
        chance = random.Random(232)
        for depth in (3, 13, 49, 50):
            levels = some_levels(chance, depth)
            screen = Screen(levels)
            half = 2 ** (depth - 1)
            turns = [0, 1, -1, 2, 3, -2, 10 ** 14, 10 ** 14 + 1, FAR // half, -FAR // half + 1]
            for right, down in product(turns, repeat=2):
                x, y = right * half, down * half
                told = moved(screen, x, y)
                self.assertIsInstance(told, Screen)
                self.assertEqual(told == screen, right % 2 == down % 2 == 0)
                self.assertEqual(told.levels[:-1], levels[:-1])
                for place in [(0, 0), (1, -1), (FAR, -FAR), (chance.randrange(FAR), chance.randrange(FAR))]:
                    there = slow_threshold(levels, place[0] - x, place[1] - y)
                    self.assertEqual(told.threshold(*place), there)
            self.assertEqual(screen.levels, levels)

    def test_anything_else(self):
        chance = random.Random(233)
        for depth in (2, 3, 49, 50):
            screen = Screen(some_levels(chance, depth))
            half = 2 ** (depth - 1)
            for turns in (0, 1, -1, 2, 10 ** 14):
                for x in (turns * half + 1, turns * half - 1, turns * half + half // 2):
                    self.assertIsNone(moved(screen, x, 0))
                    self.assertIsNone(moved(screen, 0, x))
                    self.assertIsNone(moved(screen, half, x))
                    self.assertIsNone(moved(screen, x, -half))
                    self.assertIsNone(moved(screen, x, x))
        # 10 ** 30 is 2 ** 30 by an odd number.
        for depth in range(1, 51):
            whole = depth <= 31
            for far in (FAR, -FAR):
                self.assertIs(moved(bayer(depth), far, 0) is not None, whole)
                self.assertEqual(moved(bayer(depth), 0, far) == bayer(depth), depth <= 30)

    def test_there_and_back(self):
        chance = random.Random(234)
        for depth in (1, 2, 50):
            screen = Screen(some_levels(chance, depth))
            half = screen.period // 2
            for x, y in product((0, half, -half, 2 * half, 7 * half), repeat=2):
                self.assertEqual(moved(moved(screen, x, y), -x, -y), screen)
                self.assertEqual(moved(moved(screen, x, 0), 0, y), moved(screen, x, y))


class ShiftTest(unittest.TestCase):
    def test_every_pair_of_one_level(self):
        for level, other in product(permutations(range(4)), repeat=2):
            expected = None
            for x, y in ((0, 0), (0, 1), (1, 0), (1, 1)):
                table = [slow_threshold([level], right - x, down - y) for down in (0, 1) for right in (0, 1)]
                if expected is None and tuple(table) == other:
                    expected = (x, y)
            self.assertEqual(shift_between(Screen([level]), Screen([other])), expected)

    def test_moved_screens(self):
        chance = random.Random(235)
        for depth in (1, 2, 3, 49, 50):
            screen = Screen(some_levels(chance, depth))
            half = screen.period // 2
            for right, down in product((0, 1, -1, 2, 3, 10 ** 14), repeat=2):
                told = shift_between(screen, moved(screen, right * half, down * half))
                self.assertEqual(told, (right % 2 * half, down % 2 * half))
                self.assertIsInstance(told, tuple)
            self.assertEqual(shift_between(screen, Screen(screen.levels)), (0, 0))

    def test_no_shift(self):
        chance = random.Random(236)
        for depth in (2, 3, 50):
            levels = some_levels(chance, depth)
            screen = Screen(levels)
            a, b, c, d = levels[-1]
            self.assertIsNone(shift_between(screen, Screen([*levels[:-1], (b, a, c, d)])))
            self.assertIsNone(shift_between(screen, Screen([*levels[:-1], (a, c, b, d)])))
            first = levels[0]
            self.assertIsNone(shift_between(screen, Screen([(first[1], first[0], first[3], first[2]), *levels[1:]])))
            self.assertIsNone(shift_between(screen, first_levels(screen, depth - 1)))
            self.assertIsNone(shift_between(first_levels(screen, depth - 1), screen))


class WrongTest(unittest.TestCase):
    def both(self, screen, second):
        return [
            (InvalidScreen, WRONG_SCREENS), (InvalidShade, wrong_shades(screen)),
            (InvalidScreen, WRONG_SCREENS), (InvalidShade, wrong_shades(second)),
        ]

    def test_two_screens_and_shades(self):
        for screen, second in ((bayer(1), bayer(50)), (bayer(50), bayer(1)), (bayer(2), bayer(2))):
            good = (screen, screen.shades, second, second.shades)
            both = self.both(screen, second)
            check_errors(self, same_dots, good, both)
            for function in (unlike_count, first_unlike):
                check_errors(self, function, (*good, WHOLE), [*both, (InvalidWindow, WRONG_WINDOWS)])
                check_errors(self, function, (*good, ONE), [*both, (InvalidWindow, WRONG_WINDOWS)])

    def test_each_shade_is_that_of_its_own_screen(self):
        self.assertIs(same_dots(bayer(2), 16, bayer(1), 4), True)
        for good in ((bayer(2), 16, bayer(1), 5), (bayer(1), 5, bayer(2), 16)):
            with self.assertRaises(InvalidShade):
                same_dots(*good)
        # The shade of the first screen goes ahead of the second screen.
        with self.assertRaises(InvalidShade):
            same_dots(bayer(1), 5, None, 5)
        with self.assertRaises(InvalidScreen):
            same_dots(bayer(1), 4, None, 5)

    def test_moves(self):
        for screen in (bayer(1), bayer(50)):
            wrong = [(InvalidScreen, WRONG_SCREENS), (InvalidPlace, WRONG_COORDINATES), (InvalidPlace, WRONG_COORDINATES)]
            check_errors(self, moved, (screen, -FAR, FAR), wrong)
            # A move that gives no screen is no error, one that is none is.
            check_errors(self, moved, (screen, 1, 3), wrong)

    def test_shifts(self):
        wrong = [(InvalidScreen, WRONG_SCREENS), (InvalidScreen, WRONG_SCREENS)]
        check_errors(self, shift_between, (bayer(1), bayer(50)), wrong)

    def test_calls_change_nothing(self):
        screen, other = Screen([(0, 2, 3, 1), (1, 0, 3, 2)]), Screen([(0, 2, 3, 1)])
        before = self.answers(screen, other)
        for value in WRONG + [LONG]:
            with self.assertRaises(InvalidShade):
                same_dots(screen, 6, other, value)
            with self.assertRaises(InvalidWindow):
                unlike_count(screen, 6, other, 2, value)
        self.assertEqual(self.answers(screen, other), before)
        self.assertEqual([screen.levels, other.levels], [[(0, 2, 3, 1), (1, 0, 3, 2)], [(0, 2, 3, 1)]])
        again = moved(screen, 2, 2)
        again.levels.clear()
        self.assertEqual(again, moved(screen, 2, 2))

    def answers(self, screen, other):
        counted = unlike_count(screen, 6, other, 2, WHOLE), first_unlike(screen, 6, other, 2, WHOLE)
        return counted, same_dots(screen, 8, other, 2), moved(screen, 2, 0), shift_between(screen, other)


if __name__ == "__main__":
    unittest.main()
