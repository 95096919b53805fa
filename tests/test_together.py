"""Points 8, 9 and 11, and sections 2 to 7 together: what the modules say of the same screen agrees."""

import random
import unittest
from fractions import Fraction

from plain import FAR, FAR_PLACES, far_windows, great_windows, small_windows, some_levels, some_shades

from ditherdepths.dots import dot_count, is_dot, nth_dot
from ditherdepths.patterns import match_count, match_share, matches
from ditherdepths.ranks import least_shade, nth_threshold, shades_with, threshold_range, times_of
from ditherdepths.runs import longest_across, longest_down, longest_in_column, longest_in_row
from ditherdepths.screens import Screen, first_levels, flipped, mirrored, stacked, transposed
from ditherdepths.squares import even_part, first_fuller, fuller_count, is_fuller

DEPTHS = (1, 2, 5, 49, 50)
KINDS = ("dot", "blank")


def some_screens(chance):
    """Screens of all depths with a few shades of each."""
    for depth in DEPTHS:
        for _ in range(3):
            screen = Screen(some_levels(chance, depth))
            for shade in some_shades(chance, screen, 3):
                yield screen, shade


def some_windows(chance):
    """Windows of all sizes that, mirrored with squares that begin in them, stay within the bounds."""
    windows = [*small_windows(chance, 2), *far_windows(chance, 2), *chance.sample(great_windows(chance), 4)]
    windows += [(-FAR, -FAR, FAR, FAR), (-FAR, 1 - FAR, 1, 3)]
    kept = []
    for left, top, width, height in windows:
        if max(left + width, top + height) + 2 ** 50 > FAR:
            left, top, width, height = left // 3, top // 3, width // 2 + 1, height // 2 + 1
        kept.append((left, top, width, height))
    return kept


def across(window):
    """The window mirrored left to right."""
    left, top, width, height = window
    return -left - width, top, width, height


def down(window):
    """The window mirrored top to bottom."""
    left, top, width, height = window
    return left, -top - height, width, height


def over(window):
    """The window mirrored over the diagonal."""
    left, top, width, height = window
    return top, left, height, width


TURNS = ((mirrored, across), (flipped, down), (transposed, over))


class TurnedTest(unittest.TestCase):
    def test_ranks(self):
        chance = random.Random(130)
        for screen, shade in some_screens(chance):
            for turned, turn in TURNS:
                for window in some_windows(chance):
                    other, there = turned(screen), turn(window)
                    number = chance.randrange(window[2] * window[3])
                    threshold = nth_threshold(screen, window, number)
                    self.assertEqual(nth_threshold(other, there, number), threshold)
                    self.assertEqual(threshold_range(other, there), threshold_range(screen, window))
                    self.assertEqual(times_of(other, there, threshold), times_of(screen, window, threshold))
                    self.assertEqual(least_shade(other, there, number), least_shade(screen, window, number))
                    dots = dot_count(screen, shade, window)
                    self.assertEqual(shades_with(other, there, dots), shades_with(screen, window, dots))

    def test_squares(self):
        chance = random.Random(131)
        for screen, shade in some_screens(chance):
            side = chance.randrange(screen.depth + 1)
            length = 2 ** side
            for turned, turn in TURNS:
                other = turned(screen)
                self.assertEqual(even_part(other, shade, side), even_part(screen, shade, side))
                for left, top, width, height in some_windows(chance):
                    told = is_fuller(screen, shade, side, left, top)
                    x, y, _, _ = turn((left, top, length, length))
                    self.assertIs(is_fuller(other, shade, side, x, y), told)
                    # All the places of the squares mirror, and so the places at which the squares begin.
                    x, y, wide, high = turn((left, top, width + length - 1, height + length - 1))
                    window = (x, y, wide - length + 1, high - length + 1)
                    told = fuller_count(screen, shade, side, (left, top, width, height))
                    self.assertEqual(fuller_count(other, shade, side, window), told)
                    self.assertEqual(first_fuller(other, shade, side, window) is None, told == 0)

    def test_runs(self):
        chance = random.Random(132)
        for screen, shade in some_screens(chance):
            left, top, diagonal = mirrored(screen), flipped(screen), transposed(screen)
            for kind in KINDS:
                rows, columns = longest_across(screen, shade, kind), longest_down(screen, shade, kind)
                for other in (left, top):
                    self.assertEqual(longest_across(other, shade, kind), rows)
                    self.assertEqual(longest_down(other, shade, kind), columns)
                self.assertEqual(longest_across(diagonal, shade, kind), columns)
                self.assertEqual(longest_down(diagonal, shade, kind), rows)
                for place in (0, 1, -1, FAR - 1, 1 - FAR, chance.randrange(-FAR, FAR)):
                    row = longest_in_row(screen, shade, place, kind)
                    column = longest_in_column(screen, shade, place, kind)
                    self.assertEqual(longest_in_row(left, shade, place, kind), row)
                    self.assertEqual(longest_in_row(top, shade, -1 - place, kind), row)
                    self.assertEqual(longest_in_column(diagonal, shade, place, kind), row)
                    self.assertEqual(longest_in_column(top, shade, place, kind), column)
                    self.assertEqual(longest_in_column(left, shade, -1 - place, kind), column)
                    self.assertEqual(longest_in_row(diagonal, shade, place, kind), column)

    def test_patterns(self):
        chance = random.Random(133)
        for screen, shade in some_screens(chance):
            second = Screen(some_levels(chance, 3)), chance.randrange(65)
            moves = [chance.randrange(-FAR, FAR) // chance.choice([1, FAR // 4]) for _ in range(6)]
            for turned, turn in TURNS:
                def aside(x, y):
                    # Differences of places turn like the windows of no place.
                    return turn((x, y, 0, 0))[:2]
                plates = [(screen, shade, *moves[:2]), (*second, *moves[2:4])]
                conditions = [(0, 0, 0, True), (1, *moves[4:], False), (0, 1, -1, True)]
                others = [(turned(plate[0]), plate[1], *aside(*plate[2:])) for plate in plates]
                told = [(number, *aside(x, y), truth) for number, x, y, truth in conditions]
                self.assertEqual(match_share(others, told), match_share(plates, conditions))
                for window in some_windows(chance):
                    many = match_count(plates, conditions, window)
                    self.assertEqual(match_count(others, told, turn(window)), many)
                    x, y, _, _ = turn((window[0], window[1], 1, 1))
                    self.assertIs(matches(others, told, x, y), matches(plates, conditions, *window[:2]))


class CutTest(unittest.TestCase):
    """The shades of the first levels, by more levels: all that is told of dots is the same."""

    def some_pairs(self, chance):
        """A deep screen with a shade, and its first levels with the shade that gives the same dots."""
        for depth in (2, 5, 50):
            for number in sorted({1, 2, depth // 2, depth - 1, depth}):
                screen = Screen(some_levels(chance, depth))
                coarse = first_levels(screen, number)
                self.assertEqual(number == depth, coarse == screen)
                if number < depth:
                    self.assertEqual(stacked(coarse, Screen(screen.levels[number:])), screen)
                for shade in some_shades(chance, coarse, 2):
                    yield screen, shade * 4 ** (depth - number), coarse, shade

    def test_dots_and_squares(self):
        chance = random.Random(134)
        for screen, shade, coarse, less in self.some_pairs(chance):
            for window in some_windows(chance):
                self.assertEqual(dot_count(screen, shade, window), dot_count(coarse, less, window))
                self.assertEqual(nth_dot(screen, shade, window, 2), nth_dot(coarse, less, window, 2))
                side = chance.randrange(coarse.depth + 1)
                self.assertEqual(even_part(screen, shade, side), even_part(coarse, less, side))
                self.assertEqual(fuller_count(screen, shade, side, window), fuller_count(coarse, less, side, window))
                self.assertEqual(first_fuller(screen, shade, side, window), first_fuller(coarse, less, side, window))
                told = is_fuller(screen, shade, side, *window[:2])
                self.assertIs(told, is_fuller(coarse, less, side, *window[:2]))
                # Squares of whole periods of the first levels are all alike.
                if side < screen.depth - coarse.depth:
                    self.assertEqual(fuller_count(screen, shade, coarse.depth + side, window), 0)

    def test_runs(self):
        chance = random.Random(135)
        for screen, shade, coarse, less in self.some_pairs(chance):
            for kind in KINDS:
                self.assertEqual(longest_across(screen, shade, kind), longest_across(coarse, less, kind))
                self.assertEqual(longest_down(screen, shade, kind), longest_down(coarse, less, kind))
                for place in FAR_PLACES:
                    told = longest_in_row(screen, shade, place, kind)
                    self.assertEqual(told, longest_in_row(coarse, less, place, kind))
                    told = longest_in_column(screen, shade, place, kind)
                    self.assertEqual(told, longest_in_column(coarse, less, place, kind))

    def test_patterns(self):
        chance = random.Random(136)
        for screen, shade, coarse, less in self.some_pairs(chance):
            # One has no dot more than the other, and none less.
            plates = [(screen, shade, FAR, -1), (coarse, less, FAR - 5, 2)]
            for truth in (True, False):
                unlike = [(0, 5, -3, truth), (1, 0, 0, not truth)]
                self.assertEqual(match_share(plates, unlike), (0, 1))
                self.assertEqual(match_count(plates, unlike, (-FAR, FAR, FAR, FAR)), 0)
            told = Fraction(*match_share(plates, [(0, 5, -3, True), (1, 0, 0, True)]))
            self.assertEqual(told, Fraction(less, coarse.shades))

    def test_ranks(self):
        chance = random.Random(137)
        for screen, _, coarse, less in self.some_pairs(chance):
            unit = screen.shades // coarse.shades
            for window in some_windows(chance):
                number = chance.randrange(window[2] * window[3])
                threshold = nth_threshold(screen, window, number)
                self.assertEqual(nth_threshold(coarse, window, number), threshold // unit)
                first, last = threshold_range(screen, window)
                self.assertEqual(threshold_range(coarse, window), (first // unit, last // unit))
                least = least_shade(screen, window, number)
                self.assertEqual(least_shade(coarse, window, number), -(least // -unit))
                self.assertLessEqual(times_of(screen, window, threshold), times_of(coarse, window, threshold // unit))


class SameTest(unittest.TestCase):
    def test_ranks_and_dots(self):
        chance = random.Random(138)
        for screen, shade in some_screens(chance):
            for window in some_windows(chance):
                dots = dot_count(screen, shade, window)
                first, last = shades_with(screen, window, dots)
                self.assertTrue(first <= shade <= last)
                self.assertEqual(least_shade(screen, window, dots), first)
                if dots:
                    self.assertLess(nth_threshold(screen, window, dots - 1), shade)
                if dots < window[2] * window[3]:
                    self.assertGreaterEqual(nth_threshold(screen, window, dots), shade)
                threshold = screen.threshold(*window[:2])
                self.assertEqual(nth_threshold(screen, (*window[:2], 1, 1), 0), threshold)
                self.assertGreaterEqual(times_of(screen, window, threshold), 1)

    def test_squares_and_dots(self):
        chance = random.Random(139)
        for screen, shade in some_screens(chance):
            for side in sorted({0, 1, screen.depth, chance.randrange(screen.depth + 1)}):
                length = 2 ** side
                for x, y, _, _ in some_windows(chance):
                    told = even_part(screen, shade, side) + is_fuller(screen, shade, side, x, y)
                    self.assertEqual(dot_count(screen, shade, (x, y, length, length)), told)

    def test_squares_side_by_side(self):
        # Squares that lie as far from one another as they are long have together each dot once.
        chance = random.Random(140)
        for depth in (3, 4):
            screen = Screen(some_levels(chance, depth))
            for shade in some_shades(chance, screen, 6):
                for side in range(depth + 1):
                    length = 2 ** side
                    x, y = chance.randrange(-FAR, FAR), chance.randrange(-FAR, FAR)
                    total = 0
                    for right in range(0, screen.period, length):
                        for below in range(0, screen.period, length):
                            total += even_part(screen, shade, side)
                            total += is_fuller(screen, shade, side, x + right, y + below)
                    self.assertEqual(total, shade)

    def test_runs_and_patterns(self):
        # There are so many dots side by side somewhere exactly if the longest of all rows is as long.
        chance = random.Random(141)
        for screen, shade in some_screens(chance):
            for kind in KINDS:
                rows, columns = longest_across(screen, shade, kind), longest_down(screen, shade, kind)
                for number in range(1, 6):
                    plates = [(screen, shade, 3, -FAR)]
                    beside = [(0, x, 0, kind == "dot") for x in range(number)]
                    below = [(0, 0, y, kind == "dot") for y in range(number)]
                    there = match_share(plates, beside)[0] > 0
                    self.assertIs(there, rows is None or rows >= number)
                    there = match_share(plates, below)[0] > 0
                    self.assertIs(there, columns is None or columns >= number)

    def test_runs_and_patterns_of_a_row(self):
        chance = random.Random(142)
        for screen, shade in some_screens(chance):
            period = screen.period
            for place in (0, -1, chance.randrange(-FAR, FAR)):
                for kind in KINDS:
                    row = longest_in_row(screen, shade, place, kind)
                    column = longest_in_column(screen, shade, place, kind)
                    for number in range(1, 6):
                        beside = [(0, x, 0, kind == "dot") for x in range(number)]
                        many = match_count([(screen, shade, 0, 0)], beside, (0, place, period, 1))
                        self.assertIs(many > 0, row is None or row >= number)
                        below = [(0, 0, y, kind == "dot") for y in range(number)]
                        many = match_count([(screen, shade, 0, 0)], below, (place, 0, 1, period))
                        self.assertIs(many > 0, column is None or column >= number)
                        if row is None:
                            self.assertEqual(dot_count(screen, shade, (0, place, FAR, 1)), FAR * (kind == "dot"))

    def test_patterns_and_dots(self):
        chance = random.Random(143)
        for screen, shade in some_screens(chance):
            for window in some_windows(chance):
                plates = [(screen, shade, 0, 0)]
                for truth in (True, False):
                    dots = dot_count(screen, shade, window)
                    places = window[2] * window[3]
                    told = match_count(plates, [(0, 0, 0, truth)], window)
                    self.assertEqual(told, dots if truth else places - dots)
                    place = window[:2]
                    self.assertIs(matches(plates, [(0, 0, 0, truth)], *place), is_dot(screen, shade, *place) == truth)
            told = Fraction(*match_share([(screen, shade, 0, 0)], [(0, 0, 0, True)]))
            self.assertEqual(told, Fraction(shade, screen.shades))


class AtOnceTest(unittest.TestCase):
    """Point 1: what would never end if it went over places."""

    def test_the_deepest_screens_in_the_greatest_windows(self):
        chance = random.Random(144)
        for left in (-FAR, 0, FAR):
            screen = Screen(some_levels(chance, 50))
            window = (left, -left, FAR, FAR)
            shade = chance.randrange(screen.shades)
            places = FAR * FAR
            for number in (0, places // 3, places - 1):
                threshold = nth_threshold(screen, window, number)
                self.assertTrue(0 < times_of(screen, window, threshold) < places)
                self.assertIn(least_shade(screen, window, number), (threshold, threshold + 1))
                shades_with(screen, window, number)
            for side in range(51):
                many = fuller_count(screen, shade, side, window)
                self.assertEqual(first_fuller(screen, shade, side, window) is None, many == 0)
            for kind in KINDS:
                longest_in_row(screen, shade, left, kind)
                longest_in_column(screen, shade, left, kind)
                longest_across(screen, shade, kind)
                longest_down(screen, shade, kind)
            moves = (FAR, -FAR, FAR - 1, 12345)
            plates = [(Screen(some_levels(chance, 50)), 4 ** 50 - 4 ** 49, x, -x) for x in moves]
            conditions = [(number % 4, FAR - number, -FAR, number > 1) for number in range(5)]
            many = match_count(plates, conditions, window)
            # Each place of a period stands in the window about as often as any other.
            numerator, denominator = match_share(plates, conditions)
            whole = numerator * places
            self.assertLess(abs(many * denominator - whole), whole // 10 ** 10 + denominator)
            matches(plates, conditions, left, left)


if __name__ == "__main__":
    unittest.main()
