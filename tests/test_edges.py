"""Points 1 to 6 and section 8: edges, lone dots, and islands less holes."""

import random
import unittest
from itertools import permutations

from plain import (
    WRONG, WRONG_SCREENS, check_errors, small_dots, some_levels, some_shades, turned_over, wrong_shades,
)

from ditherdepths.edges import edges, islands_less_holes, lone_dots
from ditherdepths.errors import InvalidScreen, InvalidShade
from ditherdepths.patterns import match_share
from ditherdepths.screens import Screen, bayer, first_levels, flipped, mirrored, transposed

FUNCTIONS = (edges, lone_dots, islands_less_holes)


def told(screen, shade):
    return edges(screen, shade), lone_dots(screen, shade), islands_less_holes(screen, shade)


def slow_told(levels, shade):
    """The numbers of section 8, place by place."""
    dot = small_dots(levels, shade)
    across = down = lone = islands = 0
    for x in range(2 ** len(levels)):
        for y in range(2 ** len(levels)):
            here, right, below, both = dot(x, y), dot(x + 1, y), dot(x, y + 1), dot(x + 1, y + 1)
            across += here != right
            down += here != below
            lone += here and not (right or below or dot(x - 1, y) or dot(x, y - 1))
            islands += here - (here and right) - (here and below) + (here and right and below and both)
    return (across, down), lone, islands


class SmallTest(unittest.TestCase):
    def test_every_screen_of_one_level(self):
        for level in permutations(range(4)):
            for shade in range(5):
                self.assertEqual(told(Screen([level]), shade), slow_told([level], shade), (level, shade))

    def test_every_shade_of_few_levels(self):
        chance = random.Random(200)
        for depth, number in ((2, 12), (3, 4)):
            for _ in range(number):
                levels = some_levels(chance, depth)
                for shade in range(4 ** depth + 1):
                    self.assertEqual(told(Screen(levels), shade), slow_told(levels, shade), (levels, shade))

    def test_some_shades_of_more_levels(self):
        chance = random.Random(201)
        for depth in (4, 5):
            levels = some_levels(chance, depth)
            for shade in some_shades(chance, Screen(levels), 4):
                self.assertEqual(told(Screen(levels), shade), slow_told(levels, shade), (levels, shade))

    def test_kinds_of_values(self):
        across, down = edges(bayer(2), 9)
        self.assertIsInstance(edges(bayer(2), 9), tuple)
        for value in (across, down, lone_dots(bayer(2), 9), islands_less_holes(bayer(2), 9)):
            self.assertIs(type(value), int)


class DeepTest(unittest.TestCase):
    def some_screens(self, chance):
        for depth in (1, 2, 7, 49, 50):
            for _ in range(4):
                screen = Screen(some_levels(chance, depth))
                for shade in some_shades(chance, screen, 4) + [screen.shades // 4, screen.shades // 2]:
                    yield screen, shade

    def test_no_dot_and_all_dots(self):
        chance = random.Random(202)
        for depth in (1, 2, 49, 50):
            screen = Screen(some_levels(chance, depth))
            self.assertEqual(told(screen, 0), ((0, 0), 0, 0))
            self.assertEqual(told(screen, screen.shades), ((0, 0), 0, 0))

    def test_one_dot_and_one_blank(self):
        chance = random.Random(203)
        for depth in (1, 2, 49, 50):
            screen = Screen(some_levels(chance, depth))
            self.assertEqual(told(screen, 1), ((2, 2), 1, 1))
            self.assertEqual(told(screen, screen.shades - 1), ((2, 2), 0, -1))

    def test_a_quarter_and_a_half(self):
        # By a quarter each dot stands alone; by a half the dots are rows, columns or diagonals.
        for depth in (1, 2, 50):
            dots = 4 ** (depth - 1)
            for level in permutations(range(4)):
                screen = Screen([level] * depth)
                self.assertEqual(told(screen, dots), ((2 * dots, 2 * dots), dots, dots))
                corners = {level.index(0), level.index(1)}
                if corners in ({0, 3}, {1, 2}):
                    self.assertEqual(told(screen, 2 * dots), ((4 * dots, 4 * dots), 2 * dots, 2 * dots))
                elif corners in ({0, 1}, {2, 3}):
                    self.assertEqual(told(screen, 2 * dots), ((0, 4 * dots), 0, 0))
                else:
                    self.assertEqual(told(screen, 2 * dots), ((4 * dots, 0), 0, 0))

    def test_by_patterns(self):
        chance = random.Random(204)
        for screen, shade in self.some_screens(chance):
            plates = [(screen, shade, 0, 0)]

            def many(*conditions):
                numerator, denominator = match_share(plates, [(0, *condition) for condition in conditions])
                return screen.shades * numerator // denominator

            across = many((0, 0, True), (1, 0, False)) + many((0, 0, False), (1, 0, True))
            down = many((0, 0, True), (0, 1, False)) + many((0, 0, False), (0, 1, True))
            self.assertEqual(edges(screen, shade), (across, down))
            around = [(1, 0, False), (0, -1, False), (-1, 0, False), (0, 1, False)]
            self.assertEqual(lone_dots(screen, shade), many((0, 0, True), *around))
            pairs = many((0, 0, True), (1, 0, True)) + many((0, 0, True), (0, 1, True))
            squares = many((0, 0, True), (1, 0, True), (0, 1, True), (1, 1, True))
            self.assertEqual(islands_less_holes(screen, shade), shade - pairs + squares)

    def test_mirrored_and_turned(self):
        chance = random.Random(205)
        for screen, shade in self.some_screens(chance):
            (across, down), lone, islands = told(screen, shade)
            self.assertEqual(told(mirrored(screen), shade), ((across, down), lone, islands))
            self.assertEqual(told(flipped(screen), shade), ((across, down), lone, islands))
            self.assertEqual(told(transposed(screen), shade), ((down, across), lone, islands))

    def test_dots_and_blanks_exchanged(self):
        chance = random.Random(206)
        for screen, shade in self.some_screens(chance):
            self.assertEqual(edges(turned_over(screen), screen.shades - shade), edges(screen, shade))

    def test_first_levels(self):
        # A deeper screen that shows the same has more periods of it in its own.
        chance = random.Random(207)
        for depth in (2, 50):
            for number in sorted({1, depth // 2, depth - 1}):
                screen = Screen(some_levels(chance, depth))
                coarse = first_levels(screen, number)
                for shade in some_shades(chance, coarse, 3):
                    times = 4 ** (depth - number)
                    (across, down), lone, islands = told(coarse, shade)
                    expected = (across * times, down * times), lone * times, islands * times
                    self.assertEqual(told(screen, shade * times), expected)


class WrongTest(unittest.TestCase):
    def test_wrong(self):
        for screen in (bayer(1), bayer(50)):
            for function in FUNCTIONS:
                wrong = [(InvalidScreen, WRONG_SCREENS), (InvalidShade, wrong_shades(screen))]
                check_errors(self, function, (screen, screen.shades), wrong)

    def test_calls_change_nothing(self):
        levels = [(0, 2, 3, 1), (1, 0, 3, 2)]
        screen = Screen(levels)
        before = told(screen, 6)
        for value in WRONG:
            for function in FUNCTIONS:
                with self.assertRaises(InvalidShade):
                    function(screen, value)
        self.assertEqual(told(screen, 6), before)
        self.assertEqual(screen.levels, [(0, 2, 3, 1), (1, 0, 3, 2)])


if __name__ == "__main__":
    unittest.main()
