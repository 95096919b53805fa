"""Points 1 to 7 and section 11: which shades what was seen can come from."""

import random
import unittest
from itertools import product

from plain import (
    FAR, FAR_PLACES, LONG, ONE, WRONG, WRONG_COORDINATES, WRONG_SCREENS, WRONG_TRUTHS, WRONG_WINDOWS, check_errors,
    check_lists, far_windows, great_windows, no_lists, raises_item, slow_dots, slow_threshold, small_windows,
    some_levels, some_shades,
)

from ditherdepths.dots import dot_count, is_dot
from ditherdepths.errors import InvalidScreen, InvalidSeen
from ditherdepths.ranks import shades_with
from ditherdepths.screens import Screen, bayer
from ditherdepths.told import deciding, first_contradiction, shades_counted, shades_for

SIGHT = (0, 0, True)
COUNT = (ONE, 1)
SEEING = (shades_for, deciding, first_contradiction)
NEAR = [0, 1, 2, 3, -1, -2, 5, 8]


def slow_shades(levels, seen):
    """All shades by which all places have what was seen."""
    thresholds = [slow_threshold(levels, x, y) for x, y, _ in seen]
    shades = range(4 ** len(levels) + 1)
    pairs = list(zip(thresholds, seen))
    return [shade for shade in shades if all((threshold < shade) == dot for threshold, (_, _, dot) in pairs)]


def ends(shades):
    """The least and the greatest one of some shades, all between them being there."""
    if not shades:
        return None
    assert shades == list(range(shades[0], shades[-1] + 1))
    return shades[0], shades[-1]


def some_seen(chance, screen, places, number, doubt):
    """So many places with what a shade shows there, some of them told wrongly."""
    shade = chance.choice(some_shades(chance, screen, 5))
    seen = []
    for _ in range(number):
        x, y = chance.choice(places), chance.choice(places)
        dot = slow_threshold(screen.levels, x, y) < shade
        seen.append((x, y, dot != (chance.random() < doubt)))
    return shade, seen


class SmallSeenTest(unittest.TestCase):
    def test_every_shade(self):
        chance = random.Random(240)
        for depth in (1, 2, 3):
            for _ in range(60):
                screen = Screen(some_levels(chance, depth))
                doubt = chance.choice([0, 0.02, 0.2])
                _, seen = some_seen(chance, screen, NEAR, chance.choice([1, 2, 3, 7]), doubt)
                shades = slow_shades(screen.levels, seen)
                self.assertEqual(shades_for(screen, seen), ends(shades), (screen.levels, seen))
                first = None
                for item in range(len(seen)):
                    if not slow_shades(screen.levels, seen[:item + 1]):
                        first = item
                        break
                self.assertEqual(first_contradiction(screen, seen), first)

    def test_deciding(self):
        chance = random.Random(241)
        for depth in (1, 2, 3, 50):
            for _ in range(40):
                screen = Screen(some_levels(chance, depth))
                places = NEAR if depth < 50 else FAR_PLACES
                _, seen = some_seen(chance, screen, places, chance.choice([1, 2, 5, 20]), chance.choice([0, 0.3, 1]))
                expected = []
                for truth, better in ((True, max), (False, min)):
                    told = [slow_threshold(screen.levels, x, y) for x, y, dot in seen if dot is truth]
                    there = [
                        item for item, (x, y, dot) in enumerate(seen)
                        if dot is truth and slow_threshold(screen.levels, x, y) == better(told)
                    ]
                    expected.append(there[0] if there else None)
                self.assertEqual(deciding(screen, seen), tuple(expected))

    def test_one_place(self):
        chance = random.Random(242)
        for depth in (1, 2, 49, 50):
            screen = Screen(some_levels(chance, depth))
            for x, y in [screen.place(0), screen.place(screen.shades - 1), *product(FAR_PLACES, repeat=2)]:
                threshold = slow_threshold(screen.levels, x, y)
                self.assertEqual(shades_for(screen, [(x, y, True)]), (threshold + 1, screen.shades))
                self.assertEqual(shades_for(screen, [(x, y, False)]), (0, threshold))
                self.assertEqual(deciding(screen, [(x, y, True)]), (0, None))
                self.assertEqual(deciding(screen, [(x, y, False)]), (None, 0))
                self.assertIsNone(first_contradiction(screen, [(x, y, False)]))
                # Seen as a dot and as a blank, there or a period aside.
                beside = x + (screen.period if x < 0 else -screen.period)
                both = [(x, y, True), (x, y, True), (beside, y, False), (x, y, True)]
                self.assertIsNone(shades_for(screen, both))
                self.assertEqual(first_contradiction(screen, both), 2)
                self.assertEqual(deciding(screen, both), (0, 2))

    def test_one_shade_is_left(self):
        chance = random.Random(243)
        for depth in (1, 2, 50):
            screen = Screen(some_levels(chance, depth))
            for shade in {1, screen.shades - 1, chance.randrange(1, screen.shades)}:
                seen = [(*screen.place(shade - 1), True), (*screen.place(shade), False)]
                self.assertEqual(shades_for(screen, seen), (shade, shade))
                turned = [(*screen.place(shade - 1), False), (*screen.place(shade), True)]
                self.assertIsNone(shades_for(screen, turned))
                self.assertEqual(first_contradiction(screen, turned), 1)

    def test_all_dots_and_no_dot(self):
        for screen in (bayer(1), bayer(50)):
            last = (*screen.place(screen.shades - 1), True)
            self.assertEqual(shades_for(screen, [last]), (screen.shades, screen.shades))
            first = (*screen.place(0), False)
            self.assertEqual(shades_for(screen, [first]), (0, 0))

    def test_the_first_one_of_several_decides(self):
        # Places a period aside have the same threshold.
        x, y = bayer(2).place(9)
        seen = [(0, 0, True), (x, y, True), (x + 4, y, True), (x, y - 8, True)]
        self.assertEqual(deciding(bayer(2), seen), (1, None))
        seen = [(x, y, False), (*bayer(2).place(10), False), (x + 4, y, False), (0, 0, True)]
        self.assertEqual(deciding(bayer(2), seen), (3, 0))


class DeepSeenTest(unittest.TestCase):
    def test_400_places(self):
        chance = random.Random(244)
        for depth in (1, 49, 50):
            screen = Screen(some_levels(chance, depth))
            shade, seen = some_seen(chance, screen, FAR_PLACES + [chance.randrange(-FAR, FAR) for _ in range(90)], 400, 0)
            least, greatest = shades_for(screen, seen)
            self.assertTrue(least <= shade <= greatest)
            self.assertIsNone(first_contradiction(screen, seen))
            # Just these shades agree: those beside them show something else somewhere.
            for told, agrees in ((least, True), (greatest, True), (least - 1, False), (greatest + 1, False)):
                if 0 <= told <= screen.shades:
                    same = all(is_dot(screen, told, x, y) == dot for x, y, dot in seen)
                    self.assertIs(same, agrees)
            dots, blanks = deciding(screen, seen)
            if dots is not None:
                self.assertEqual(screen.threshold(*seen[dots][:2]), least - 1)
            if blanks is not None:
                self.assertEqual(screen.threshold(*seen[blanks][:2]), greatest)

    def test_a_contradiction_at_the_end(self):
        chance = random.Random(245)
        screen = Screen(some_levels(chance, 50))
        shade, seen = some_seen(chance, screen, [chance.randrange(-FAR, FAR) for _ in range(90)], 399, 0)
        dots, blanks = deciding(screen, seen)
        for item in (dots, blanks):
            if item is not None:
                x, y, dot = seen[item]
                self.assertEqual(first_contradiction(screen, [*seen, (x, y, not dot)]), 399)
                self.assertIsNone(shades_for(screen, [*seen, (x, y, not dot)]))

    def test_what_is_ahead_alone_counts(self):
        chance = random.Random(246)
        for depth in (2, 50):
            for _ in range(40):
                screen = Screen(some_levels(chance, depth))
                _, seen = some_seen(chance, screen, FAR_PLACES, 30, 0.1)
                item = first_contradiction(screen, seen)
                if item is None:
                    self.assertIsNotNone(shades_for(screen, seen))
                else:
                    self.assertIsNone(shades_for(screen, seen))
                    self.assertIsNone(shades_for(screen, seen[:item + 1]))
                    if item:
                        self.assertIsNotNone(shades_for(screen, seen[:item]))


class CountedTest(unittest.TestCase):
    def test_every_shade(self):
        chance = random.Random(247)
        some = 0
        for depth in (1, 2):
            for _ in range(60):
                levels = some_levels(chance, depth)
                shade = chance.randrange(4 ** depth + 1)
                counted = []
                for window in small_windows(chance, chance.randrange(1, 4)):
                    window = (*window[:2], min(window[2], 4), min(window[3], 4))
                    wrong = chance.random() < 0.1
                    counted.append((window, len(slow_dots(levels, shade, window)) + wrong))
                shades = [
                    told for told in range(4 ** depth + 1)
                    if all(len(slow_dots(levels, told, window)) == number for window, number in counted)
                ]
                some += bool(shades)
                self.assertEqual(shades_counted(Screen(levels), counted), ends(shades), (levels, counted))
        self.assertGreater(some, 60)

    def test_one_window(self):
        chance = random.Random(248)
        for depth in (1, 2, 49, 50):
            screen = Screen(some_levels(chance, depth))
            for window in [ONE, (FAR, FAR, 1, 1), *far_windows(chance, 3), *great_windows(chance)[:12]]:
                places = window[2] * window[3]
                for number in {0, 1, places, places // 2, places // 3 + 1, chance.randrange(places + 1)}:
                    if number <= places:
                        told = shades_counted(screen, [(window, number)])
                        self.assertEqual(told, shades_with(screen, window, number))
                for number in (places + 1, places + 2, 10 ** 60):
                    if places < number <= 10 ** 60:
                        self.assertIsNone(shades_counted(screen, [(window, number)]))

    def test_20_windows(self):
        chance = random.Random(249)
        for depth in (1, 13, 49, 50):
            screen = Screen(some_levels(chance, depth))
            for shade in some_shades(chance, screen, 3):
                windows = [*far_windows(chance, 6), *chance.sample(great_windows(chance), 12)]
                windows += [windows[0], windows[10]]
                counted = [(window, dot_count(screen, shade, window)) for window in windows]
                least, greatest = shades_counted(screen, counted)
                self.assertTrue(0 <= least <= shade <= greatest <= screen.shades)
                for told, agrees in ((least, True), (greatest, True), (least - 1, False), (greatest + 1, False)):
                    if 0 <= told <= screen.shades:
                        same = all(dot_count(screen, told, window) == number for window, number in counted)
                        self.assertIs(same, agrees)

    def test_some_twice(self):
        chance = random.Random(250)
        screen = Screen(some_levels(chance, 50))
        window = (-FAR, 3, 2 ** 50, 2 ** 50)
        self.assertEqual(shades_counted(screen, [(window, 77)]), (77, 77))
        self.assertEqual(shades_counted(screen, [(window, 77)] * 20), (77, 77))
        self.assertIsNone(shades_counted(screen, [(window, 77)] * 19 + [(window, 78)]))
        self.assertEqual(shades_counted(screen, [((0, 0, FAR, FAR), 10 ** 60)]), (4 ** 50, 4 ** 50))
        self.assertEqual(shades_counted(screen, [((0, 0, FAR, FAR), 0)]), (0, 0))

    def test_agreeing_alone_but_not_together(self):
        four = bayer(2)
        self.assertEqual(shades_counted(four, [((0, 0, 4, 4), 5)]), (5, 5))
        self.assertEqual(shades_counted(four, [((0, 0, 1, 1), 0)]), (0, 0))
        self.assertIsNone(shades_counted(four, [((0, 0, 4, 4), 5), ((0, 0, 1, 1), 0)]))

    def test_no_shade_of_one_window(self):
        # Two places with the same threshold have a dot or none together.
        self.assertIsNone(shades_counted(bayer(2), [((0, 0, 5, 1), 1)]))
        self.assertIsNone(shades_counted(bayer(2), [((0, 0, 1, 1), 1), ((0, 0, 5, 1), 1)]))


class WrongTest(unittest.TestCase):
    def test_seen(self):
        wrong = WRONG + [0, LONG, [0, 0, True], (0, 0), (0, 0, True, True), (SIGHT,), [SIGHT], (0, 0, 1), (True, 0, 0)]
        wrong += [(value, 0, True) for value in WRONG_COORDINATES]
        wrong += [(0, value, True) for value in WRONG_COORDINATES]
        wrong += [(0, 0, value) for value in WRONG_TRUTHS]
        for function in SEEING:
            check_lists(self, lambda seen: function(bayer(2), seen), InvalidSeen, SIGHT, wrong, 400)

    def test_counted(self):
        wrong = WRONG + [0, LONG, [ONE, 1], (ONE,), (ONE, 1, 1), (1, ONE), (*ONE, 1), [COUNT], (COUNT,), SIGHT]
        wrong += [(value, 1) for value in WRONG_WINDOWS]
        wrong += [(ONE, value) for value in WRONG + [-1, -LONG, 10 ** 60 + 1, LONG, "1"]]
        check_lists(self, lambda counted: shades_counted(bayer(2), counted), InvalidSeen, COUNT, wrong, 20)

    def test_401_places_and_21_windows(self):
        for function in SEEING:
            function(bayer(50), [(FAR, -FAR, False)] * 400)
            raises_item(self, lambda: function(bayer(50), [(FAR, -FAR, False)] * 401), InvalidSeen, None)
            raises_item(self, lambda: function(bayer(50), [None] * 401), InvalidSeen, None)
        shades_counted(bayer(50), [((FAR, -FAR, FAR, FAR), 10 ** 60)] * 20)
        raises_item(self, lambda: shades_counted(bayer(50), [COUNT] * 21), InvalidSeen, None)

    def test_a_wrong_item_behind_a_contradiction(self):
        seen = [(0, 0, True), (0, 0, False), (0, 0, 1)]
        for function in SEEING:
            raises_item(self, lambda: function(bayer(2), seen), InvalidSeen, 2)
        counted = [(ONE, 2), (ONE, True)]
        raises_item(self, lambda: shades_counted(bayer(2), counted), InvalidSeen, 1)

    def test_screens_go_ahead(self):
        for function in SEEING:
            check_errors(self, function, (bayer(50), [SIGHT]), [
                (InvalidScreen, WRONG_SCREENS), (InvalidSeen, no_lists(SIGHT, 400)),
            ])
        check_errors(self, shades_counted, (bayer(50), [COUNT]), [
            (InvalidScreen, WRONG_SCREENS), (InvalidSeen, no_lists(COUNT, 20)),
        ])

    def test_calls_change_nothing(self):
        screen = Screen([(0, 2, 3, 1), (1, 0, 3, 2)])
        seen, counted = [(0, 0, True), (3, 1, False), (0, 0, True)], [((0, 0, 4, 4), 7), ((1, 1, 2, 2), 2)]
        kept = list(seen), list(counted)
        before = [function(screen, seen) for function in SEEING], shades_counted(screen, counted)
        for value in WRONG:
            for function in SEEING:
                raises_item(self, lambda: function(screen, [*seen, value]), InvalidSeen, 3)
            raises_item(self, lambda: shades_counted(screen, [*counted, value]), InvalidSeen, 2)
        after = [function(screen, seen) for function in SEEING], shades_counted(screen, counted)
        self.assertEqual(before, after)
        self.assertEqual((seen, counted), kept)
        self.assertEqual(screen.levels, [(0, 2, 3, 1), (1, 0, 3, 2)])


if __name__ == "__main__":
    unittest.main()
