"""Points 1 to 5 and 10, and section 7: the patterns."""

import random
import unittest
from fractions import Fraction
from itertools import product

from plain import (
    FAR, FAR_PLACES, LONG, ONE, WRONG, WRONG_COORDINATES, WRONG_SCREENS, WRONG_WINDOWS, check_errors, far_windows,
    great_windows, like_it, parted, slow_threshold, small_windows, some_levels, some_shades, wrong_shades,
)

from ditherdepths.dots import dot_count, is_dot
from ditherdepths.errors import InvalidConditions, InvalidPlace, InvalidPlates, InvalidWindow
from ditherdepths.patterns import match_count, match_share, matches
from ditherdepths.screens import Screen, bayer

WHOLE = (FAR, -FAR, FAR, FAR)
PLATE = (bayer(2), 9, 0, 0)
CONDITION = (0, 0, 0, True)


def slow_matches(plates, conditions, x, y):
    """Whether a place has all conditions by the words of section 7."""
    for number, right, down, dot in conditions:
        screen, shade, across, below = plates[number]
        there = slow_threshold(screen.levels, x + right - across, y + down - below) < shade
        if there != dot:
            return False
    return True


def slow_count(plates, conditions, window):
    left, top, width, height = window
    places = [(x, y) for x in range(left, left + width) for y in range(top, top + height)]
    return sum(slow_matches(plates, conditions, x, y) for x, y in places)


def some_plates(chance, depths, moves):
    """A plate of each of these depths, each moved by two of these moves."""
    plates = []
    for depth in depths:
        screen = Screen(some_levels(chance, depth))
        shade = chance.choice(some_shades(chance, screen, 12))
        plates.append((screen, shade, chance.choice(moves), chance.choice(moves)))
    return plates


def some_conditions(chance, plates, number, moves):
    """So many conditions on any of the plates."""
    return [
        (chance.randrange(len(plates)), chance.choice(moves), chance.choice(moves), chance.random() < 0.5)
        for _ in range(number)
    ]


NEAR = [0, 0, 1, -1, 2, 3, -4, 5, 7, 8, -8, -9]
BOUNDS = NEAR + FAR_PLACES


class MatchesTest(unittest.TestCase):
    def test_place_by_place(self):
        chance = random.Random(100)
        for many in (1, 2, 3, 4):
            for _ in range(60):
                plates = some_plates(chance, [chance.choice([1, 2, 3, 50]) for _ in range(many)], BOUNDS)
                conditions = some_conditions(chance, plates, chance.randrange(1, 6), BOUNDS)
                for _ in range(4):
                    x, y = chance.choice(BOUNDS), chance.choice(BOUNDS)
                    told = matches(plates, conditions, x, y)
                    self.assertIs(told, slow_matches(plates, conditions, x, y))
                    self.assertEqual(match_count(plates, conditions, (x, y, 1, 1)), int(told))

    def test_all_at_the_bounds(self):
        # The place that is looked at lies three times as far as a place may lie.
        chance = random.Random(101)
        for x, y in product((-FAR, FAR), repeat=2):
            screen = Screen(some_levels(chance, 50))
            threshold = slow_threshold(screen.levels, 3 * x, 3 * y)
            plates = [(screen, threshold, -x, -y), (screen, threshold + 1, -x, -y)]
            self.assertIs(matches(plates, [(0, x, y, False), (1, x, y, True)], x, y), True)
            self.assertEqual(match_count(plates, [(0, x, y, False), (1, x, y, True)], (x, y, 1, 1)), 1)
            self.assertIs(matches(plates, [(0, x, y, True)], x, y), False)
            self.assertIs(matches(plates, [(1, x, y, False)], x, y), False)


class SmallCountTest(unittest.TestCase):
    def test_one_plate(self):
        chance = random.Random(102)
        for depth in (1, 2, 3):
            for _ in range(25):
                plates = some_plates(chance, [depth], BOUNDS)
                for number in (1, 2, 5):
                    conditions = some_conditions(chance, plates, number, BOUNDS)
                    self.check_count(chance, plates, conditions)

    def test_plates_of_unlike_depths(self):
        chance = random.Random(103)
        for _ in range(60):
            plates = some_plates(chance, chance.sample([1, 2, 3, 49, 50], 4), BOUNDS)
            conditions = some_conditions(chance, plates, chance.randrange(1, 6), BOUNDS)
            self.check_count(chance, plates, conditions)

    def check_count(self, chance, plates, conditions):
        for window in [*small_windows(chance, 2), *far_windows(chance, 1)]:
            told = match_count(plates, conditions, window)
            self.assertEqual(told, slow_count(plates, conditions, window), (plates, conditions, window))

    def test_shares_of_small_screens(self):
        chance = random.Random(104)
        for _ in range(80):
            depths = [chance.choice([1, 2, 3]) for _ in range(chance.randrange(1, 5))]
            plates = some_plates(chance, depths, NEAR)
            conditions = some_conditions(chance, plates, chance.randrange(1, 4), NEAR)
            period = 2 ** max(depths)
            share = Fraction(slow_count(plates, conditions, (0, 0, period, period)), period ** 2)
            self.assertEqual(match_share(plates, conditions), (share.numerator, share.denominator))

    def test_great_windows_by_whole_periods(self):
        # Behind whole periods there is what small screens show place by place.
        chance = random.Random(105)
        for window in great_windows(chance):
            left, top, _, _ = window
            plates = some_plates(chance, [1, 3, 2], BOUNDS)
            conditions = some_conditions(chance, plates, chance.randrange(1, 4), BOUNDS)
            places = [(x, y) for x in range(left, left + 8) for y in range(top, top + 8)]
            there = [(x, y) for x, y in places if slow_matches(plates, conditions, x, y)]
            expected = sum(like_it(window, x, y, 8) for x, y in there)
            self.assertEqual(match_count(plates, conditions, window), expected)


class DeepCountTest(unittest.TestCase):
    def some_patterns(self, chance, number):
        """Patterns of four plates that are moved by up to the bounds, with five conditions."""
        for _ in range(number):
            plates = some_plates(chance, [50, 49, chance.randrange(1, 51), 50], BOUNDS)
            yield plates, some_conditions(chance, plates, 5, BOUNDS)

    def test_one_condition_counts_dots_or_blanks(self):
        chance = random.Random(106)
        for depth in (1, 13, 50):
            for window in great_windows(chance):
                left, top, width, height = window
                (screen, shade, x, y), = some_plates(chance, [depth], NEAR)
                dots = dot_count(screen, shade, window)
                # Moving the plate and looking as far aside leaves it as it was.
                self.assertEqual(match_count([(screen, shade, x, y)], [(0, x, y, True)], window), dots)
                told = match_count([(screen, shade, x, y)], [(0, x, y, False)], window)
                self.assertEqual(told, width * height - dots)

    def test_in_parts(self):
        chance = random.Random(107)
        for plates, conditions in self.some_patterns(chance, 12):
            for window in great_windows(chance)[:12]:
                parts = parted(chance, window)
                if parts:
                    counts = [match_count(plates, conditions, part) for part in parts]
                    self.assertEqual(match_count(plates, conditions, window), sum(counts))

    def test_all_truths_together_have_all_places(self):
        chance = random.Random(108)
        for plates, conditions in self.some_patterns(chance, 6):
            window = chance.choice(great_windows(chance))
            counts = []
            shares = []
            for truths in product((True, False), repeat=5):
                told = [(*condition[:3], truth) for condition, truth in zip(conditions, truths)]
                counts.append(match_count(plates, told, window))
                shares.append(Fraction(*match_share(plates, told)))
            self.assertEqual(sum(counts), window[2] * window[3])
            self.assertEqual(sum(shares), 1)

    def test_a_condition_more(self):
        # With a condition more, places that have it and places that do not are parted.
        chance = random.Random(109)
        for plates, conditions in self.some_patterns(chance, 30):
            window = chance.choice(great_windows(chance))
            *fewer, (number, x, y, truth) = conditions
            counts = [match_count(plates, [*fewer, (number, x, y, dot)], window) for dot in (True, False)]
            self.assertEqual(match_count(plates, fewer, window), sum(counts))

    def test_shares_and_periods(self):
        chance = random.Random(110)
        for plates, conditions in self.some_patterns(chance, 30):
            numerator, denominator = match_share(plates, conditions)
            self.assertEqual(Fraction(numerator, denominator).denominator, denominator)
            period = 2 ** 50
            window = (chance.choice(FAR_PLACES), chance.choice(FAR_PLACES), 3 * period, 7 * period)
            self.assertEqual(match_count(plates, conditions, window) * denominator, numerator * 21 * 4 ** 50)

    def test_all_moved_alike(self):
        # Plates that are all moved alike show in a window that is moved as well what they showed.
        chance = random.Random(111)
        for plates, conditions in self.some_patterns(chance, 30):
            plates = [(screen, shade, x // 2, y // 2) for screen, shade, x, y in plates]
            left, top, width, height = chance.choice(great_windows(chance))
            right, down = chance.randrange(-FAR // 2, FAR // 2), chance.randrange(-FAR // 2, FAR // 2)
            moved = [(screen, shade, x + right, y + down) for screen, shade, x, y in plates]
            before = match_count(plates, conditions, (left // 2, top // 2, width, height))
            after = match_count(moved, conditions, (left // 2 + right, top // 2 + down, width, height))
            self.assertEqual(before, after)
            self.assertEqual(match_share(plates, conditions), match_share(moved, conditions))

    def test_moves_by_periods(self):
        chance = random.Random(112)
        window = (-FAR, 12345, FAR, FAR)
        for plates, conditions in self.some_patterns(chance, 20):
            plates = [(screen, shade, x // 2, y // 2) for screen, shade, x, y in plates]
            moved = []
            for screen, shade, x, y in plates:
                turns = chance.choice([1, -1, 10 ** 14, -10 ** 14])
                moved.append((screen, shade, x + turns * screen.period, y - turns * screen.period))
            self.assertEqual(match_count(plates, conditions, window), match_count(moved, conditions, window))
            self.assertEqual(match_share(plates, conditions), match_share(moved, conditions))

    def test_just_beside_a_period(self):
        # By the shade 1 a plate has one dot in a period, so two plates meet only if moved by periods.
        chance = random.Random(113)
        for depth in (1, 2, 49, 50):
            screen = Screen(some_levels(chance, depth))
            period = screen.period
            both = [(0, 0, 0, True), (1, 0, 0, True)]
            for turns in (0, 1, -1, 5):
                for beside in (-1, 0, 1):
                    plates = [(screen, 1, 0, 0), (screen, 1, turns * period + beside, -turns * period)]
                    share = (0, 1) if beside else (1, 4 ** depth)
                    self.assertEqual(match_share(plates, both), share)
                    told = match_count(plates, both, (3, 4, 2 * period, 3 * period))
                    self.assertEqual(told, 0 if beside else 6)


class EdgeTest(unittest.TestCase):
    def test_contradictions(self):
        chance = random.Random(114)
        for depth in (1, 2, 50):
            for x, y in product((0, -1, FAR, -FAR), repeat=2):
                plates = some_plates(chance, [depth], BOUNDS)
                against = [(0, x, y, True), (0, x, y, False)]
                self.assertEqual(match_share(plates, against), (0, 1))
                self.assertEqual(match_share(plates, [*against, *against, CONDITION]), (0, 1))
                self.assertEqual(match_count(plates, against, WHOLE), 0)
                self.assertIs(matches(plates, against, x, y), False)

    def test_plates_that_contradict_each_other(self):
        # A place above the greater shade is above the lesser one, too.
        screen = Screen(some_levels(random.Random(115), 50))
        for less, more in ((0, 1), (1, 2), (4 ** 49, 4 ** 50)):
            plates = [(screen, less, 3, FAR), (screen, more, 3, FAR)]
            self.assertEqual(match_share(plates, [(0, 0, 0, True), (1, 0, 0, False)]), (0, 1))
            told = Fraction(*match_share(plates, [(0, 0, 0, False), (1, 0, 0, True)]))
            self.assertEqual(told, Fraction(more - less, 4 ** 50))

    def test_twice_the_same(self):
        chance = random.Random(116)
        for _ in range(30):
            plates = some_plates(chance, [chance.choice([1, 2, 50]), 3], BOUNDS)
            one, two = some_conditions(chance, plates, 2, BOUNDS)
            window = chance.choice(great_windows(chance))
            for twice, once in (([one] * 5, [one]), ([one, two, one, two, one], [one, two])):
                self.assertEqual(match_share(plates, twice), match_share(plates, once))
                self.assertEqual(match_count(plates, twice, window), match_count(plates, once, window))
                self.assertIs(matches(plates, twice, FAR, 3), matches(plates, once, FAR, 3))
            same = [plates[one[0]]] * 4
            told = [(number, *one[1:]) for number in range(4)]
            self.assertEqual(match_count(same, told, window), match_count(plates, [one], window))

    def test_the_sequence_of_conditions(self):
        chance = random.Random(117)
        plates = some_plates(chance, [50, 1, 49, 2], BOUNDS)
        conditions = some_conditions(chance, plates, 5, BOUNDS)
        for _ in range(10):
            other = chance.sample(conditions, 5)
            self.assertEqual(match_count(plates, other, WHOLE), match_count(plates, conditions, WHOLE))

    def test_no_dot_and_all_dots(self):
        chance = random.Random(118)
        for depth in (1, 2, 50):
            screen = Screen(some_levels(chance, depth))
            for shade, truth in ((0, False), (screen.shades, True)):
                plates = [(screen, shade, FAR, -FAR), PLATE]
                self.assertEqual(match_share(plates, [(0, 1, -1, truth)]), (1, 1))
                self.assertEqual(match_count(plates, [(0, 1, -1, truth)] * 5, WHOLE), FAR * FAR)
                self.assertEqual(match_share(plates, [(0, 1, -1, not truth)]), (0, 1))
                self.assertEqual(match_count(plates, [(0, 1, -1, not truth), CONDITION], ONE), 0)
                told = match_count(plates, [(0, 1, -1, truth), (1, 0, 0, True)], WHOLE)
                self.assertEqual(told, dot_count(bayer(2), 9, WHOLE))

    def test_a_plate_that_no_condition_names(self):
        chance = random.Random(119)
        plates = some_plates(chance, [2, 50, 1, 49], BOUNDS)
        conditions = [(0, 0, 0, True), (2, 1, 1, False)]
        alone = [plates[0], plates[2]]
        renamed = [(0, 0, 0, True), (1, 1, 1, False)]
        self.assertEqual(match_share(plates, conditions), match_share(alone, renamed))
        self.assertEqual(match_count(plates, conditions, WHOLE), match_count(alone, renamed, WHOLE))

    def test_places_beyond_the_bounds(self):
        # A window may reach beyond them, and so do the places that are counted.
        window = (FAR, FAR, 3, 2)
        dots = [(x, y) for x in range(3) for y in range(2) if is_dot(*PLATE[:2], x + FAR % 4, y + FAR % 4)]
        self.assertEqual(match_count([PLATE], [CONDITION], window), len(dots))


class WrongPlatesTest(unittest.TestCase):
    def calls(self, plates, conditions):
        """The functions with these lists, and with what is behind them right and wrong."""
        yield lambda: match_share(plates, conditions)
        for window in (WHOLE, ONE, None, [0, 0, 1, 1]):
            yield lambda: match_count(plates, conditions, window)
        for x, y in ((0, 0), (FAR, -FAR), (None, FAR + 1)):
            yield lambda: matches(plates, conditions, x, y)

    def raises(self, error, item, plates, conditions):
        for call in self.calls(plates, conditions):
            with self.subTest(error=error.__name__, item=item, value=repr(plates)[:80]):
                with self.assertRaises(error) as caught:
                    call()
                self.assertIs(caught.exception.__class__, error)
                self.assertEqual(caught.exception.item, item)

    def test_no_list_of_plates(self):
        wrong = [value for value in WRONG if not isinstance(value, list) or not value]
        wrong += [0, LONG, (PLATE,), PLATE, {0: PLATE}, [PLATE] * 5, [None] * 5, [PLATE] * 400, bayer(1), iter([PLATE])]
        for value in wrong:
            for conditions in ([CONDITION], None, [None]):
                self.raises(InvalidPlates, None, value, conditions)

    def test_wrong_plates(self):
        screen = bayer(2)
        wrong = WRONG + [0, LONG, screen, list(PLATE), PLATE[:3], (*PLATE, 0), [PLATE], (PLATE,)]
        wrong += [(value, 9, 0, 0) for value in WRONG_SCREENS]
        wrong += [(screen, value, 0, 0) for value in wrong_shades(screen)]
        wrong += [(screen, 9, value, 0) for value in WRONG_COORDINATES]
        wrong += [(screen, 9, 0, value) for value in WRONG_COORDINATES]
        for value in wrong:
            for conditions in ([CONDITION], None):
                self.raises(InvalidPlates, 0, [value], conditions)
                self.raises(InvalidPlates, 3, [PLATE, PLATE, PLATE, value], conditions)
                self.raises(InvalidPlates, 1, [PLATE, value, value, PLATE], conditions)

    def test_the_shade_is_that_of_the_plate(self):
        deep, flat = bayer(50), bayer(1)
        good = [(deep, 4 ** 50, 0, 0), (flat, 4, FAR, -FAR)]
        self.assertEqual(match_share(good, [(1, 0, 0, True)]), (1, 1))
        self.raises(InvalidPlates, 1, [(deep, 4 ** 50, 0, 0), (flat, 5, 0, 0)], [CONDITION])
        self.raises(InvalidPlates, 0, [(deep, 4 ** 50 + 1, 0, 0), (flat, 5, 0, 0)], [CONDITION])

    def test_no_list_of_conditions(self):
        wrong = [value for value in WRONG if not isinstance(value, list) or not value]
        wrong += [0, LONG, (CONDITION,), CONDITION, {0: CONDITION}, [CONDITION] * 6, [None] * 6, [CONDITION] * 400]
        wrong += [PLATE, iter([CONDITION])]
        for value in wrong:
            self.raises(InvalidConditions, None, [PLATE], value)
            self.raises(InvalidConditions, None, [PLATE] * 4, value)

    def test_wrong_conditions(self):
        wrong = WRONG + [0, LONG, list(CONDITION), CONDITION[:3], (*CONDITION, True), [CONDITION], (CONDITION,), PLATE]
        wrong += [(value, 0, 0, True) for value in WRONG + [-1, 2, 4, LONG, -LONG, PLATE]]
        wrong += [(0, value, 0, True) for value in WRONG_COORDINATES]
        wrong += [(0, 0, value, True) for value in WRONG_COORDINATES]
        truths = [value for value in WRONG if not isinstance(value, bool)] + [0, 1, LONG, "True", (True,), [True]]
        wrong += [(0, 0, 0, value) for value in truths]
        for value in wrong:
            self.raises(InvalidConditions, 0, [PLATE, PLATE], [value])
            self.raises(InvalidConditions, 4, [PLATE, PLATE], [CONDITION] * 4 + [value])
            self.raises(InvalidConditions, 1, [PLATE, PLATE], [CONDITION, value, value, CONDITION])

    def test_a_condition_that_names_no_plate(self):
        for many in (1, 2, 3, 4):
            last = (many - 1, FAR, -FAR, False)
            self.assertIsInstance(match_share([PLATE] * many, [last]), tuple)
            self.raises(InvalidConditions, 1, [PLATE] * many, [last, (many, 0, 0, True)])
            self.raises(InvalidConditions, 0, [PLATE] * many, [(-1, 0, 0, True), (many, 0, 0, True)])

    def test_windows_and_places(self):
        for plates, conditions in (([PLATE], [CONDITION]), ([(bayer(50), 1, FAR, -FAR)] * 4, [(3, 0, FAR, False)] * 5)):
            places = [(InvalidPlace, WRONG_COORDINATES), (InvalidPlace, WRONG_COORDINATES)]
            lists = [(InvalidPlates, [None, [], tuple(plates)]), (InvalidConditions, [None, [], tuple(conditions)])]
            check_errors(self, match_count, (plates, conditions, WHOLE), [*lists, (InvalidWindow, WRONG_WINDOWS)])
            check_errors(self, matches, (plates, conditions, -FAR, FAR), lists + places)
            check_errors(self, match_share, (plates, conditions), lists)


class UnchangedTest(unittest.TestCase):
    def test_calls_change_nothing(self):
        plates = [PLATE, (Screen([(1, 0, 3, 2)]), 2, -3, FAR)]
        conditions = [CONDITION, (1, 2, -FAR, False), (0, 1, 0, True)]
        kept = list(plates), list(conditions)
        before = self.answers(plates, conditions)
        for value in WRONG:
            with self.assertRaises(InvalidPlates):
                match_share([*plates, value], conditions)
            with self.assertRaises(InvalidConditions):
                match_share(plates, [*conditions, value])
            with self.assertRaises(InvalidWindow):
                match_count(plates, conditions, value)
        self.assertEqual(self.answers(plates, conditions), before)
        self.assertEqual((plates, conditions), kept)
        self.assertEqual(plates[1][0].levels, [(1, 0, 3, 2)])

    def answers(self, plates, conditions):
        counted = match_count(plates, conditions, WHOLE), match_count(plates, conditions, (-2, -2, 9, 9))
        return counted, match_share(plates, conditions), matches(plates, conditions, 1, 1)


if __name__ == "__main__":
    unittest.main()
