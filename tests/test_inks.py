"""Points 1 to 7 and 10, and section 9: how much plates overlap."""

import random
import unittest
from itertools import product

from plain import (
    FAR, FAR_PLACES, LONG, ONE, WRONG, WRONG_WINDOWS, check_errors, check_lists, far_windows, great_windows, like_it,
    no_lists, parted, slow_threshold, small_dots, small_windows, some_levels, some_shades, wrong_plates,
)

from ditherdepths.dots import dot_count
from ditherdepths.errors import InvalidPlates, InvalidWindow
from ditherdepths.inks import covered, ink_counts
from ditherdepths.patterns import match_count
from ditherdepths.screens import Screen, bayer

WHOLE = (FAR, -FAR, FAR, FAR)
PLATE = (bayer(2), 9, 0, 0)
NEAR = [0, 0, 1, -1, 2, 3, -4, 5, 7, 8, -8, -9]
BOUNDS = NEAR + FAR_PLACES


def some_plates(chance, depths, moves):
    """A plate of each of these depths, each moved by two of these moves."""
    plates = []
    for depth in depths:
        screen = Screen(some_levels(chance, depth))
        shade = chance.choice(some_shades(chance, screen, 12))
        plates.append((screen, shade, chance.choice(moves), chance.choice(moves)))
    return plates


def slow_counts(plates, window):
    """The numbers of section 9, place by place."""
    left, top, width, height = window
    counts = [0] * 2 ** len(plates)
    for x, y in product(range(left, left + width), range(top, top + height)):
        number = 0
        for item, (screen, shade, right, down) in enumerate(plates):
            number += 2 ** item * (slow_threshold(screen.levels, x - right, y - down) < shade)
        counts[number] += 1
    return counts


class SmallTest(unittest.TestCase):
    def test_place_by_place(self):
        chance = random.Random(210)
        for many in (1, 2, 3):
            for _ in range(25):
                plates = some_plates(chance, [chance.choice([1, 2, 3, 49, 50]) for _ in range(many)], BOUNDS)
                for window in [*small_windows(chance, 1), *far_windows(chance, 1), (*chance.sample(BOUNDS, 2), 1, 1)]:
                    counts = slow_counts(plates, window)
                    self.assertEqual(ink_counts(plates, window), counts, (plates, window))
                    self.assertEqual(covered(plates, window), sum(counts[1:]))

    def test_great_windows_by_whole_periods(self):
        chance = random.Random(211)
        for window in great_windows(chance):
            left, top, _, _ = window
            plates = some_plates(chance, chance.sample([1, 2, 3], 3), BOUNDS)
            dots = [(small_dots(screen.levels, shade), x, y) for screen, shade, x, y in plates]
            counts = [0] * 8
            for x, y in product(range(left, left + 8), range(top, top + 8)):
                number = sum(2 ** item * dot(x - right, y - down) for item, (dot, right, down) in enumerate(dots))
                counts[number] += like_it(window, x, y, 8)
            self.assertEqual(ink_counts(plates, window), counts)
            self.assertEqual(covered(plates, window), sum(counts[1:]))


class DeepTest(unittest.TestCase):
    def some_inks(self, chance, number):
        for _ in range(number):
            depths = [chance.choice([1, 2, 13, 49, 50]) for _ in range(chance.randrange(1, 4))]
            yield some_plates(chance, depths, BOUNDS), chance.choice(great_windows(chance))

    def test_all_places_are_counted_once(self):
        chance = random.Random(212)
        for plates, window in self.some_inks(chance, 40):
            counts = ink_counts(plates, window)
            self.assertEqual(len(counts), 2 ** len(plates))
            self.assertEqual(sum(counts), window[2] * window[3])
            self.assertTrue(all(count >= 0 for count in counts))
            self.assertEqual(covered(plates, window), sum(counts[1:]))

    def test_in_parts(self):
        chance = random.Random(213)
        for plates, window in self.some_inks(chance, 40):
            parts = parted(chance, window)
            if parts:
                added = [sum(counts) for counts in zip(*[ink_counts(plates, part) for part in parts])]
                self.assertEqual(ink_counts(plates, window), added)
                self.assertEqual(covered(plates, window), sum(covered(plates, part) for part in parts))

    def test_by_patterns(self):
        chance = random.Random(214)
        for plates, window in self.some_inks(chance, 30):
            counts = ink_counts(plates, window)
            for number, count in enumerate(counts):
                conditions = [(item, 0, 0, number >> item & 1 == 1) for item in range(len(plates))]
                self.assertEqual(match_count(plates, conditions, window), count)

    def test_one_plate(self):
        chance = random.Random(215)
        for depth in (1, 2, 49, 50):
            screen = Screen(some_levels(chance, depth))
            for shade in some_shades(chance, screen, 4):
                for window in [ONE, *great_windows(chance)[:8]]:
                    dots = dot_count(screen, shade, window)
                    for turns in (0, 1, -1, 10 ** 14):
                        plates = [(screen, shade, turns * screen.period, -turns * screen.period)]
                        self.assertEqual(ink_counts(plates, window), [window[2] * window[3] - dots, dots])
                        self.assertEqual(covered(plates, window), dots)

    def test_no_dot_and_all_dots(self):
        for screen in (bayer(1), bayer(50)):
            empty, full = (screen, 0, FAR, -FAR), (screen, screen.shades, -FAR, 1)
            places = FAR * FAR
            self.assertEqual(ink_counts([empty], WHOLE), [places, 0])
            self.assertEqual(ink_counts([full], WHOLE), [0, places])
            self.assertEqual(ink_counts([empty, full], WHOLE), [0, 0, places, 0])
            self.assertEqual(ink_counts([full, empty, full], WHOLE), [0, 0, 0, 0, 0, places, 0, 0])
            self.assertEqual([covered([empty] * 3, WHOLE), covered([empty, full], WHOLE)], [0, places])

    def test_the_same_plate_twice(self):
        chance = random.Random(216)
        for plates, window in self.some_inks(chance, 20):
            plate = plates[0]
            blanks, dots = ink_counts([plate], window)
            self.assertEqual(ink_counts([plate, plate], window), [blanks, 0, 0, dots])
            self.assertEqual(ink_counts([plate] * 3, window), [blanks, 0, 0, 0, 0, 0, 0, dots])
            self.assertEqual(covered([plate] * 3, window), dots)

    def test_the_sequence_of_plates(self):
        chance = random.Random(217)
        for _ in range(10):
            one, two, three = some_plates(chance, [50, 49, 2], BOUNDS)
            window = chance.choice(great_windows(chance))
            counts = ink_counts([one, two, three], window)
            other = ink_counts([three, one, two], window)
            for first, second, third in product((0, 1), repeat=3):
                number = third + 2 * first + 4 * second
                self.assertEqual(other[number], counts[first + 2 * second + 4 * third])
            self.assertEqual(ink_counts([one, two], window), [counts[item] + counts[item + 4] for item in range(4)])

    def test_moved_by_a_place_beside_a_period(self):
        # By the shade 1 a plate has one dot in a period, so two meet only if moved by periods.
        chance = random.Random(218)
        for depth in (1, 2, 49, 50):
            screen = Screen(some_levels(chance, depth))
            period = screen.period
            window = (3, 4, 2 * period, 3 * period)
            for turns, beside in product((0, 1, -1, 5), (-1, 0, 1)):
                plates = [(screen, 1, 0, 0), (screen, 1, turns * period + beside, -turns * period)]
                both = 0 if beside else 6
                self.assertEqual(ink_counts(plates, window), [6 * 4 ** depth - 12 + both, 6 - both, 6 - both, both])


class WrongTest(unittest.TestCase):
    def test_plates(self):
        for window in (WHOLE, None, [0, 0, 1, 1], (0, 0, 0, 0)):
            for function in (ink_counts, covered):
                def call(plates):
                    return function(plates, window)
                check_lists(self, call, InvalidPlates, PLATE, wrong_plates(PLATE), 3)

    def test_the_shade_is_that_of_the_plate(self):
        deep, flat = (bayer(50), 4 ** 50, 0, 0), (bayer(1), 4, FAR, -FAR)
        self.assertEqual(covered([flat, deep], WHOLE), FAR * FAR)
        with self.assertRaises(InvalidPlates) as caught:
            covered([deep, (bayer(1), 5, 0, 0)], WHOLE)
        self.assertEqual(caught.exception.item, 1)

    def test_four_plates(self):
        self.assertEqual(len(ink_counts([PLATE] * 3, WHOLE)), 8)
        for function in (ink_counts, covered):
            for plates in ([PLATE] * 4, [PLATE] * 400, [None] * 4):
                with self.assertRaises(InvalidPlates) as caught:
                    function(plates, WHOLE)
                self.assertIsNone(caught.exception.item)

    def test_windows(self):
        for plates in ([PLATE], [(bayer(50), 1, FAR, -FAR)] * 3):
            wrong = [(InvalidPlates, no_lists(PLATE, 3)), (InvalidWindow, WRONG_WINDOWS)]
            check_errors(self, ink_counts, (plates, WHOLE), wrong)
            check_errors(self, covered, (plates, WHOLE), wrong)


class UnchangedTest(unittest.TestCase):
    def test_calls_change_nothing(self):
        plates = [PLATE, (Screen([(1, 0, 3, 2)]), 2, -3, FAR)]
        kept = list(plates)
        before = ink_counts(plates, WHOLE), covered(plates, WHOLE)
        for value in WRONG + [LONG]:
            with self.assertRaises(InvalidPlates):
                ink_counts([*plates, value], WHOLE)
            with self.assertRaises(InvalidWindow):
                covered(plates, value)
        self.assertEqual((ink_counts(plates, WHOLE), covered(plates, WHOLE)), before)
        self.assertEqual(plates, kept)

    def test_a_new_list_each_time(self):
        counts = ink_counts([PLATE], WHOLE)
        kept = list(counts)
        counts.clear()
        self.assertEqual(ink_counts([PLATE], WHOLE), kept)
        self.assertIsInstance(counts, list)


if __name__ == "__main__":
    unittest.main()
