"""Points 2 to 6 and section 12: texts of screens, and dots shown by signs."""

import random
import unittest
from itertools import permutations

from plain import (
    FAR, LONG, ONE, WRONG, WRONG_SCREENS, WRONG_WINDOWS, check_errors, far_windows, slow_threshold, small_windows,
    some_levels, some_shades, wrong_shades,
)

from ditherdepths.dots import dot_count
from ditherdepths.errors import InvalidScreen, InvalidShade, InvalidText, InvalidWindow
from ditherdepths.screens import Screen, bayer
from ditherdepths.texts import read_screen, show_dots, show_screen


class ScreenTest(unittest.TestCase):
    def raises_text(self, text, part):
        with self.assertRaises(InvalidText) as caught:
            read_screen(text)
        self.assertIs(caught.exception.__class__, InvalidText)
        self.assertEqual(caught.exception.part, part)
        self.assertIs(type(caught.exception.part), type(part))

    def test_every_level(self):
        for level in permutations(range(4)):
            text = "".join(str(digit) for digit in level)
            self.assertEqual(show_screen(Screen([level])), text)
            self.assertEqual(read_screen(text).levels, [level])

    def test_there_and_back(self):
        chance = random.Random(260)
        for depth in (1, 2, 3, 25, 49, 50):
            screen = Screen(some_levels(chance, depth))
            text = show_screen(screen)
            self.assertEqual(len(text), 5 * depth - 1)
            self.assertEqual(text.split(" "), ["{}{}{}{}".format(*level) for level in screen.levels])
            self.assertEqual(read_screen(text), screen)
            self.assertIsInstance(read_screen(text), Screen)

    def test_numbers_are_integers(self):
        for digit in read_screen("0231").levels[0]:
            self.assertIs(type(digit), int)

    def test_no_string(self):
        for value in WRONG + [0, 231, LONG, b"0231", ["0231"], ("0231",), [(0, 2, 3, 1)], bayer(1)]:
            if not isinstance(value, str):
                self.raises_text(value, None)

    def test_wrong_parts(self):
        wrong = [
            "", "0", "1", "023", "02311", "0232", "1234", "0123\n", "\n0123", "01 23"[:2], "0,1,2,3", "abcd", "-012",
            "+012", "01_3", "0230", "(0, 2, 3, 1)", "0231\t", "1e23", "0000", "#.#.", "02310231", "\u0660123", "\u00b2013",
            "\uff10123",
        ]
        for part in wrong:
            self.raises_text(part, 0)
            self.raises_text(f"0231 {part}", 1)
            self.raises_text(f"0231 1023 {part} 0231", 2)
            self.raises_text(" ".join([part] * 3), 0)
            self.raises_text(" ".join(["0231"] * 49 + [part]), 49)
            self.raises_text(" ".join(["0231"] * 50 + [part]), 50)
            # What is no level goes ahead of being too many.
            self.raises_text(" ".join(["0231"] * 55 + [part] + ["0231"] * 3), 55)

    def test_spaces(self):
        self.raises_text("", 0)
        self.raises_text(" ", 0)
        self.raises_text(" 0231", 0)
        self.raises_text("0231 ", 1)
        self.raises_text("0231  1023", 1)
        self.raises_text("0231\n1023", 0)
        self.raises_text("0231 1023\n", 1)
        self.raises_text(" " * 10000, 0)

    def test_50_and_51_levels(self):
        self.assertEqual(read_screen(" ".join(["0231"] * 50)), bayer(50))
        self.raises_text(" ".join(["0231"] * 51), 50)
        self.raises_text(" ".join(["0231"] * 52), 50)
        self.raises_text(" ".join(["0231"] * 1999), 50)
        self.raises_text(" ".join(["0231"] * 51) + " ", 51)

    def test_wrong_screens(self):
        check_errors(self, show_screen, (bayer(50),), [(InvalidScreen, WRONG_SCREENS + ["0231"])])


class DotsTest(unittest.TestCase):
    def check_shown(self, screen, shade, window):
        left, top, width, height = window
        rows = []
        for y in range(top, top + height):
            dots = [slow_threshold(screen.levels, x, y) < shade for x in range(left, left + width)]
            rows.append("".join("#" if dot else "." for dot in dots))
        self.assertEqual(show_dots(screen, shade, window), "\n".join(rows))

    def test_place_by_place(self):
        chance = random.Random(261)
        for depth in (1, 2, 3, 49, 50):
            screen = Screen(some_levels(chance, depth))
            for shade in some_shades(chance, screen, 3):
                for window in [ONE, *small_windows(chance, 2), *far_windows(chance, 3)]:
                    self.check_shown(screen, shade, window)

    def test_just_4000_places(self):
        screen = Screen(some_levels(random.Random(262), 50))
        shade = screen.shades // 3
        for width, height in ((4000, 1), (1, 4000), (63, 63), (80, 50), (2, 2000), (1, 1)):
            window = (-FAR, FAR, width, height)
            shown = show_dots(screen, shade, window)
            self.assertEqual([len(row) for row in shown.split("\n")], [width] * height)
            self.assertEqual(shown.count("#"), dot_count(screen, shade, window))
        self.check_shown(screen, shade, (FAR, FAR, 80, 50))

    def test_more_than_4000_places(self):
        for width, height in ((4001, 1), (1, 4001), (64, 63), (2001, 2), (FAR, 1), (1, FAR), (FAR, FAR)):
            with self.assertRaises(InvalidWindow):
                show_dots(bayer(2), 9, (0, 0, width, height))
            with self.assertRaises(InvalidShade):
                show_dots(bayer(2), 17, (0, 0, width, height))

    def test_no_dot_and_all_dots(self):
        for screen in (bayer(1), bayer(50)):
            self.assertEqual(show_dots(screen, 0, (FAR, -FAR, 3, 2)), "...\n...")
            self.assertEqual(show_dots(screen, screen.shades, (FAR, -FAR, 3, 2)), "###\n###")
            self.assertEqual(show_dots(screen, 1, ONE), "#")

    def test_wrong(self):
        for screen in (bayer(1), bayer(50)):
            wrong = [
                (InvalidScreen, WRONG_SCREENS), (InvalidShade, wrong_shades(screen)),
                (InvalidWindow, WRONG_WINDOWS + [(0, 0, 4001, 1)]),
            ]
            check_errors(self, show_dots, (screen, screen.shades, (-FAR, FAR, 4000, 1)), wrong)

    def test_calls_change_nothing(self):
        screen = read_screen("0231 1032")
        before = show_screen(screen), show_dots(screen, 6, (-2, -2, 9, 9))
        for value in WRONG:
            with self.assertRaises(InvalidWindow):
                show_dots(screen, 6, value)
        self.assertEqual((show_screen(screen), show_dots(screen, 6, (-2, -2, 9, 9))), before)
        self.assertEqual(before[0], "0231 1032")


if __name__ == "__main__":
    unittest.main()
