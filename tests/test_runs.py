"""Points 1 to 6 and 9, and section 6: the runs."""

import random
import unittest
from itertools import permutations

from plain import (
    FAR, FAR_PLACES, LONG, WRONG, WRONG_COORDINATES, WRONG_SCREENS, check_errors, slow_table, slow_threshold,
    some_levels, some_shades, wrong_shades,
)

from ditherdepths.errors import InvalidKind, InvalidPlace, InvalidScreen, InvalidShade
from ditherdepths.runs import longest_across, longest_down, longest_in_column, longest_in_row
from ditherdepths.screens import Screen, bayer

KINDS = ("dot", "blank")
WRONG_KINDS = WRONG + [
    0, LONG, "dots", "Dot", "DOT", "dot ", " blank", "blanks", "dotblank", "d", "None", ["dot"], ("dot",), {"dot"},
    b"dot", {"dot": 1}, ("dot", "blank"), ["dot", "blank"],
]


def slow_run(marks):
    """The longest run of a line that goes on for ever by repeating these marks; None if it has no end."""
    if all(marks):
        return None
    longest = here = 0
    for mark in marks + marks:
        here = here + 1 if mark else 0
        longest = max(longest, here)
    return longest


def slow_runs(lines, shade, kind):
    """The longest runs of some lines of thresholds."""
    return [slow_run([(threshold < shade) == (kind == "dot") for threshold in line]) for line in lines]


def slow_greatest(runs):
    return None if None in runs else max(runs)


class SmallTest(unittest.TestCase):
    def check_screen(self, levels, shades):
        """Every row and column by these shades is that of going place by place."""
        screen = Screen(levels)
        rows = slow_table(levels)
        columns = [list(column) for column in zip(*rows)]
        period = screen.period
        for shade in shades:
            for kind in KINDS:
                in_rows = slow_runs(rows, shade, kind)
                in_columns = slow_runs(columns, shade, kind)
                asked = (levels, shade, kind)
                told = [longest_in_row(screen, shade, y - period, kind) for y in range(period)]
                self.assertEqual(told, in_rows, asked)
                told = [longest_in_column(screen, shade, x + period, kind) for x in range(period)]
                self.assertEqual(told, in_columns, asked)
                self.assertEqual(longest_across(screen, shade, kind), slow_greatest(in_rows), asked)
                self.assertEqual(longest_down(screen, shade, kind), slow_greatest(in_columns), asked)

    def test_every_screen_of_one_level(self):
        for level in permutations(range(4)):
            self.check_screen([level], range(5))

    def test_every_screen_of_two_levels(self):
        for first in permutations(range(4)):
            for second in permutations(range(4)):
                self.check_screen([first, second], range(17))

    def test_every_shade_of_three_levels(self):
        chance = random.Random(80)
        for _ in range(6):
            self.check_screen(some_levels(chance, 3), range(65))

    def test_more_levels(self):
        chance = random.Random(81)
        for depth in (4, 5):
            levels = some_levels(chance, depth)
            self.check_screen(levels, some_shades(chance, Screen(levels), 15))


class DeepTest(unittest.TestCase):
    def test_lines_that_repeat_soon(self):
        # Rows and columns by a shade of n digits, with zeros behind them, repeat every 2 ** n places.
        chance = random.Random(82)
        for depth in (10, 49, 50):
            levels = some_levels(chance, depth)
            screen = Screen(levels)
            for number in (1, 2, 5, 8):
                shade = chance.randrange(4 ** number + 1) * 4 ** (depth - number)
                steps = range(2 ** number)
                for place in FAR_PLACES:
                    row = [slow_threshold(levels, x, place) for x in steps]
                    column = [slow_threshold(levels, place, y) for y in steps]
                    for kind in KINDS:
                        self.assertEqual([longest_in_row(screen, shade, place, kind)], slow_runs([row], shade, kind))
                        told = longest_in_column(screen, shade, place, kind)
                        self.assertEqual([told], slow_runs([column], shade, kind))

    def test_one_dot_in_a_period(self):
        for depth in (1, 2, 49, 50):
            screen = Screen(some_levels(random.Random(83), depth))
            x, y = screen.place(0)
            for turn in (0, 7, -1000):
                row, column = y + turn * screen.period, x + turn * screen.period
                self.assertEqual(longest_in_row(screen, 1, row, "dot"), 1)
                self.assertEqual(longest_in_column(screen, 1, column, "dot"), 1)
                self.assertEqual(longest_in_row(screen, 1, row, "blank"), screen.period - 1)
                self.assertEqual(longest_in_column(screen, 1, column, "blank"), screen.period - 1)
                self.assertEqual(longest_in_row(screen, 1, row + 1, "dot"), 0)
                self.assertIsNone(longest_in_row(screen, 1, row + 1, "blank"))
                self.assertEqual(longest_in_column(screen, 1, column - 1, "dot"), 0)
                self.assertIsNone(longest_in_column(screen, 1, column - 1, "blank"))
            for function in (longest_across, longest_down):
                self.assertEqual(function(screen, 1, "dot"), 1)
                self.assertIsNone(function(screen, 1, "blank"))

    def test_one_blank_in_a_period(self):
        for depth in (1, 2, 49, 50):
            screen = Screen(some_levels(random.Random(84), depth))
            last = screen.shades - 1
            x, y = screen.place(last)
            self.assertEqual(longest_in_row(screen, last, y, "blank"), 1)
            self.assertEqual(longest_in_column(screen, last, x, "blank"), 1)
            self.assertEqual(longest_in_row(screen, last, y, "dot"), screen.period - 1)
            self.assertEqual(longest_in_column(screen, last, x, "dot"), screen.period - 1)
            self.assertIsNone(longest_in_row(screen, last, y - 1, "dot"))
            self.assertEqual(longest_in_row(screen, last, y - 1, "blank"), 0)
            for function in (longest_across, longest_down):
                self.assertIsNone(function(screen, last, "dot"))
                self.assertEqual(function(screen, last, "blank"), 1)

    def test_no_dot_and_all_dots(self):
        for depth in (1, 2, 49, 50):
            screen = Screen(some_levels(random.Random(85), depth))
            for shade, none, endless in ((0, "dot", "blank"), (screen.shades, "blank", "dot")):
                for place in FAR_PLACES:
                    for function in (longest_in_row, longest_in_column):
                        self.assertEqual(function(screen, shade, place, none), 0)
                        self.assertIsNone(function(screen, shade, place, endless))
                for function in (longest_across, longest_down):
                    self.assertEqual(function(screen, shade, none), 0)
                    self.assertIsNone(function(screen, shade, endless))

    def test_the_greatest_of_a_deep_screen(self):
        # Lines that part from that of the shade's own place at the same binary digit are alike,
        # so one of each kind and the line itself have all runs that there are.
        chance = random.Random(86)
        for depth in (2, 13, 49, 50):
            for _ in range(8):
                screen = Screen(some_levels(chance, depth))
                for shade in some_shades(chance, screen, 10):
                    x, y = screen.place(min(shade, screen.shades - 1))
                    for kind in KINDS:
                        rows = [y, *[y ^ 2 ** bit for bit in range(depth)]]
                        runs = [longest_in_row(screen, shade, row, kind) for row in rows]
                        self.assertEqual(longest_across(screen, shade, kind), slow_greatest(runs))
                        columns = [x, *[x ^ 2 ** bit for bit in range(depth)]]
                        runs = [longest_in_column(screen, shade, column, kind) for column in columns]
                        self.assertEqual(longest_down(screen, shade, kind), slow_greatest(runs))

    def test_no_line_goes_beyond_the_greatest(self):
        chance = random.Random(87)
        finite = 0
        for depth in (13, 50):
            for _ in range(8):
                screen = Screen(some_levels(chance, depth))
                for shade in some_shades(chance, screen, 4):
                    for kind in KINDS:
                        across, down = longest_across(screen, shade, kind), longest_down(screen, shade, kind)
                        for place in (FAR, -FAR, *[chance.randrange(-FAR, FAR) for _ in range(20)]):
                            in_row = longest_in_row(screen, shade, place, kind)
                            in_column = longest_in_column(screen, shade, place, kind)
                            self.assertEqual(slow_greatest([across, in_row]), across)
                            self.assertEqual(slow_greatest([down, in_column]), down)
                            finite += across is not None
        self.assertGreater(finite, 100)


class WrongTest(unittest.TestCase):
    def test_wrong(self):
        for screen in (bayer(1), bayer(50)):
            front = [(InvalidScreen, WRONG_SCREENS), (InvalidShade, wrong_shades(screen))]
            place = [(InvalidPlace, WRONG_COORDINATES)]
            kind = [(InvalidKind, WRONG_KINDS)]
            for asked in KINDS:
                for function in (longest_in_row, longest_in_column):
                    check_errors(self, function, (screen, screen.shades, FAR, asked), front + place + kind)
                    check_errors(self, function, (screen, 0, -FAR, asked), front + place + kind)
                for function in (longest_across, longest_down):
                    check_errors(self, function, (screen, screen.shades, asked), front + kind)
                    check_errors(self, function, (screen, 0, asked), front + kind)

    def test_calls_change_nothing(self):
        screen = Screen([(0, 2, 3, 1), (1, 0, 3, 2)])

        def answers():
            lines = longest_in_row(screen, 9, 1, "blank"), longest_in_column(screen, 9, 1, "blank")
            return lines, longest_across(screen, 9, "blank"), longest_down(screen, 9, "dot")

        before = answers()
        for value in WRONG_KINDS:
            with self.assertRaises(InvalidKind):
                longest_across(screen, 9, value)
            with self.assertRaises(InvalidKind):
                longest_in_row(screen, 9, 1, value)
        self.assertEqual(answers(), before)
        self.assertEqual(screen.levels, [(0, 2, 3, 1), (1, 0, 3, 2)])


if __name__ == "__main__":
    unittest.main()
