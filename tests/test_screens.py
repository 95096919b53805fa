"""Points 2, 3, 4, 5, 7, 11 and section 2: the screens."""

import random
import unittest
from itertools import permutations

from plain import FAR, LONG, WRONG, check_errors, nested, slow_threshold, some_levels

from ditherdepths.errors import InvalidLevels, InvalidNumber, InvalidPlace, InvalidScreen, TooDeep
from ditherdepths.screens import Screen, bayer, first_levels, flipped, mirrored, stacked, transposed

GOOD = (0, 2, 3, 1)
ODD = (1, 0, 3, 2)
EDGES = [0, 1, -1, 2, -2, 7, 8, 9, 2 ** 49, 2 ** 50 - 1, 2 ** 50, -2 ** 50, -2 ** 50 - 1, FAR, FAR - 1, -FAR, 1 - FAR]
WRONG_COORDINATES = WRONG + [FAR + 1, -FAR - 1, LONG, -LONG, "0", (0, 0)]
WRONG_SCREENS = WRONG + [0, 1, [GOOD], (GOOD,), GOOD, "0231", [bayer(1)], (bayer(1),)]


class MadeTest(unittest.TestCase):
    def raises_levels(self, value, level):
        with self.assertRaises(InvalidLevels) as caught:
            Screen(value)
        self.assertIs(caught.exception.__class__, InvalidLevels)
        self.assertEqual(caught.exception.level, level)

    def test_every_level_is_valid(self):
        for level in permutations(range(4)):
            self.assertEqual(Screen([level]).levels, [level])

    def test_properties(self):
        for depth in (1, 2, 3, 25, 49, 50):
            levels = some_levels(random.Random(depth), depth)
            screen = Screen(levels)
            self.assertEqual(screen.levels, levels)
            self.assertEqual([screen.depth, screen.period, screen.shades], [depth, 2 ** depth, 4 ** depth])

    def test_wrong_lists(self):
        for value in WRONG:
            # The lists among them are lists of one item that is no level.
            self.raises_levels(value, 0 if isinstance(value, list) and value else None)
        for value in ((GOOD,), GOOD, {0: GOOD}, "0231", iter([GOOD]), bayer(1), 1, LONG):
            self.raises_levels(value, None)
        self.raises_levels([], None)
        self.raises_levels([GOOD] * 51, None)
        self.raises_levels([None] * 51, None)

    def test_wrong_levels(self):
        wrong = WRONG + [
            0, 1, LONG, "0231", [0, 2, 3, 1], (0, 2, 3), (0, 1, 2, 3, 4), (0, 2, 3, 1, 0), (0, 1, 2, 2), (1, 2, 3, 4),
            (0, 1, 2, -1), (False, 2, 3, 1), (0, 2, 3, True), (False, 2, 3, True), ("0", "2", "3", "1"),
            (0, 2, 3, None), ([], [], [], []), ((0,), 2, 3, 1), (0, 2, 3, LONG), (GOOD, GOOD, GOOD, GOOD), bayer(1),
            (nested(38), 0, 1, 2), {0: 0, 1: 1, 2: 2, 3: 3}, {0, 1, 2, 3},
        ]
        for value in wrong:
            self.raises_levels([value], 0)
            self.raises_levels([GOOD, ODD, value], 2)
            self.raises_levels([GOOD, value, None, GOOD], 1)
            self.raises_levels([GOOD] * 49 + [value], 49)
            self.raises_levels([value] * 50, 0)

    def test_the_list_may_change_later(self):
        levels = [GOOD, ODD]
        screen = Screen(levels)
        levels[0] = ODD
        levels.append(None)
        self.assertEqual(screen, Screen([GOOD, ODD]))
        self.assertEqual(screen.threshold(1, 0), 9)
        returned = screen.levels
        returned.clear()
        self.assertEqual(screen.levels, [GOOD, ODD])
        self.assertIsNot(screen.levels, screen.levels)
        self.assertEqual([screen.depth, screen.threshold(1, 0)], [2, 9])

    def test_arguments_stay(self):
        levels = [ODD, GOOD]
        kept = list(levels)
        Screen(levels)
        self.assertEqual(levels, kept)
        wrong = [ODD, None]
        self.raises_levels(wrong, 1)
        self.assertEqual(wrong, [ODD, None])


class EqualTest(unittest.TestCase):
    def test_screens(self):
        self.assertTrue(Screen([GOOD, ODD]) == Screen([GOOD, ODD]))
        self.assertFalse(Screen([GOOD, ODD]) != Screen([GOOD, ODD]))
        self.assertFalse(Screen([GOOD, ODD]) == Screen([ODD, GOOD]))
        self.assertFalse(Screen([GOOD]) == Screen([GOOD, GOOD]))
        self.assertTrue(bayer(50) == bayer(50))
        self.assertFalse(bayer(50) == bayer(49))
        self.assertFalse(Screen([GOOD] * 49 + [ODD]) == bayer(50))

    def test_any_value(self):
        screen = bayer(1)
        for value in WRONG + [0, [GOOD], (GOOD,), GOOD, screen.levels, "0231"]:
            self.assertIs(screen == value, False)
            self.assertIs(screen != value, True)


class ThresholdTest(unittest.TestCase):
    def test_by_the_words_of_point_5(self):
        chance = random.Random(5)
        for depth in (1, 2, 3, 4):
            levels = some_levels(chance, depth)
            screen = Screen(levels)
            for x in range(-2 ** depth - 2, 2 ** depth + 2):
                for y in range(-2 ** depth - 2, 2 ** depth + 2):
                    self.assertEqual(screen.threshold(x, y), slow_threshold(levels, x, y))

    def test_edges(self):
        chance = random.Random(6)
        for depth in (1, 3, 49, 50):
            levels = some_levels(chance, depth)
            screen = Screen(levels)
            for x in EDGES:
                for y in EDGES:
                    self.assertEqual(screen.threshold(x, y), slow_threshold(levels, x, y), (depth, x, y))

    def test_it_repeats(self):
        chance = random.Random(7)
        for depth in (1, 5, 50):
            screen = Screen(some_levels(chance, depth))
            for _ in range(50):
                x = chance.randrange(-10 ** 20, 10 ** 20)
                y = chance.randrange(-10 ** 20, 10 ** 20)
                there = screen.threshold(x + screen.period * 7, y - screen.period * 11)
                self.assertEqual(screen.threshold(x, y), there)

    def test_level_0_is_in_front(self):
        self.assertEqual(Screen([GOOD, ODD]).threshold(1, 2), 2 * 4 + 3)
        self.assertEqual(bayer(50).threshold(1, 0), 2 * 4 ** 49 + 0)
        self.assertEqual(bayer(50).threshold(2 ** 49, 0), 2)

    def test_wrong_places(self):
        for screen in (bayer(1), bayer(50)):
            wrong = [(InvalidPlace, WRONG_COORDINATES), (InvalidPlace, WRONG_COORDINATES)]
            check_errors(self, screen.threshold, (0, 0), wrong)
            check_errors(self, screen.threshold, (-FAR, FAR), wrong)


class PlaceTest(unittest.TestCase):
    def test_each_number_has_just_one_place(self):
        chance = random.Random(8)
        for depth in (1, 2, 3, 4):
            screen = Screen(some_levels(chance, depth))
            places = [screen.place(number) for number in range(screen.shades)]
            period = range(screen.period)
            self.assertEqual(sorted(places), [(x, y) for x in period for y in period])
            self.assertEqual([screen.threshold(x, y) for x, y in places], list(range(screen.shades)))

    def test_deep_screens(self):
        chance = random.Random(9)
        for depth in (49, 50):
            screen = Screen(some_levels(chance, depth))
            numbers = [chance.randrange(screen.shades) for _ in range(50)]
            for number in [0, 1, screen.shades - 2, screen.shades - 1, *numbers]:
                x, y = screen.place(number)
                self.assertTrue(0 <= x < screen.period and 0 <= y < screen.period)
                self.assertEqual(screen.threshold(x, y), number)
                self.assertIsInstance(screen.place(number), tuple)

    def test_wrong_numbers(self):
        for depth in (1, 2, 50):
            screen = bayer(depth)
            wrong = WRONG + [-1, screen.shades, LONG, -LONG, (0, 0)]
            check_errors(self, screen.place, (0,), [(InvalidNumber, wrong)])
            check_errors(self, screen.place, (screen.shades - 1,), [(InvalidNumber, wrong)])


class BuiltTest(unittest.TestCase):
    def test_bayer(self):
        for number in (1, 2, 3, 49, 50):
            self.assertEqual(bayer(number).levels, [GOOD] * number)
        check_errors(self, bayer, (1,), [(InvalidNumber, WRONG + [0, -1, 51, LONG, -LONG])])

    def test_mirrors(self):
        chance = random.Random(10)
        for depth in (1, 2, 3, 50):
            screen = Screen(some_levels(chance, depth))
            kept = screen.levels
            left, top, over = mirrored(screen), flipped(screen), transposed(screen)
            places = [(x, y) for x in range(-9, 9) for y in range(-9, 9)]
            places += [(x, y) for x in EDGES for y in EDGES if -FAR not in (x, y) and FAR not in (x, y)]
            for x, y in places:
                self.assertEqual(left.threshold(x, y), screen.threshold(-1 - x, y))
                self.assertEqual(top.threshold(x, y), screen.threshold(x, -1 - y))
                self.assertEqual(over.threshold(x, y), screen.threshold(y, x))
            for made in (left, top, over):
                self.assertIsInstance(made, Screen)
                self.assertEqual(made.depth, depth)
            self.assertEqual(screen.levels, kept)

    def test_mirrors_at_the_farthest_places(self):
        levels = some_levels(random.Random(11), 50)
        for x in (-FAR, FAR):
            for y in (-FAR, 3, FAR):
                self.assertEqual(mirrored(Screen(levels)).threshold(x, y), slow_threshold(levels, -1 - x, y))
                self.assertEqual(flipped(Screen(levels)).threshold(y, x), slow_threshold(levels, y, -1 - x))
                self.assertEqual(transposed(Screen(levels)).threshold(x, y), slow_threshold(levels, y, x))

    def test_mirrors_twice(self):
        screen = Screen(some_levels(random.Random(12), 50))
        for function in (mirrored, flipped, transposed):
            self.assertEqual(function(function(screen)), screen)

    def test_wrong_screens(self):
        for function in (mirrored, flipped, transposed):
            check_errors(self, function, (bayer(1),), [(InvalidScreen, WRONG_SCREENS)])

    def test_first_levels(self):
        levels = some_levels(random.Random(13), 50)
        screen = Screen(levels)
        for number in (1, 2, 49, 50):
            self.assertEqual(first_levels(screen, number).levels, levels[:number])
        self.assertEqual(first_levels(bayer(1), 1), bayer(1))
        self.assertEqual(screen.levels, levels)

    def test_first_levels_wrong(self):
        for depth in (1, 3, 50):
            numbers = WRONG + [0, -1, depth + 1, LONG, -LONG]
            wrong = [(InvalidScreen, WRONG_SCREENS), (InvalidNumber, numbers)]
            check_errors(self, first_levels, (bayer(depth), depth), wrong)

    def test_stacked(self):
        levels = some_levels(random.Random(14), 50)
        for number in (1, 2, 25, 49):
            first, second = Screen(levels[:number]), Screen(levels[number:])
            self.assertEqual(stacked(first, second).levels, levels)
            self.assertEqual(first.levels, levels[:number])
            self.assertEqual(second.levels, levels[number:])
        for x, y in ((0, 0), (1, 2), (-3, 5), (6, -7)):
            first, second = Screen(levels[:2]), Screen(levels[2:3])
            behind = second.threshold(x >> 2, y >> 2)
            self.assertEqual(stacked(first, second).threshold(x, y), 4 * first.threshold(x, y) + behind)

    def test_stacked_too_deep(self):
        for first, second in ((1, 50), (50, 1), (25, 26), (50, 50)):
            with self.assertRaises(TooDeep) as caught:
                stacked(bayer(first), bayer(second))
            self.assertEqual(caught.exception.most, 50)
        self.assertEqual(stacked(bayer(25), bayer(25)), bayer(50))

    def test_stacked_wrong(self):
        wrong = [(InvalidScreen, WRONG_SCREENS), (InvalidScreen, WRONG_SCREENS)]
        check_errors(self, stacked, (bayer(1), bayer(1)), wrong)
        for value in WRONG_SCREENS:
            with self.assertRaises(InvalidScreen):
                stacked(bayer(50), value)


if __name__ == "__main__":
    unittest.main()
