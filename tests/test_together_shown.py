"""Points 1 and 5 to 11, and all sections together: what the modules say of the same screens agrees."""

import random
import unittest
from itertools import product

from plain import FAR, far_windows, great_windows, small_windows, some_levels, some_shades, turned_over

from ditherdepths.alike import first_unlike, moved, same_dots, shift_between, unlike_count
from ditherdepths.console import Console
from ditherdepths.dots import dot_count, is_dot, nth_dot
from ditherdepths.edges import edges, islands_less_holes, lone_dots
from ditherdepths.inks import covered, ink_counts
from ditherdepths.patterns import match_count, match_share, matches
from ditherdepths.pictures import InkPicture, Picture
from ditherdepths.ranks import least_shade, nth_threshold, shades_with, threshold_range, times_of
from ditherdepths.runs import longest_across, longest_down, longest_in_column, longest_in_row
from ditherdepths.screens import Screen, first_levels, flipped, mirrored, stacked, transposed
from ditherdepths.squares import even_part, first_fuller, fuller_count, is_fuller
from ditherdepths.texts import read_screen, show_dots, show_screen
from ditherdepths.told import deciding, first_contradiction, shades_counted, shades_for

DEPTHS = (1, 2, 5, 49, 50)


def some_screens(chance):
    """Screens of all depths with a few shades of each."""
    for depth in DEPTHS:
        for _ in range(2):
            screen = Screen(some_levels(chance, depth))
            for shade in some_shades(chance, screen, 2):
                yield screen, shade


def some_windows(chance):
    """Windows of all sizes that stay, when they are mirrored or moved a period, within the bounds."""
    windows = [*small_windows(chance, 2), *far_windows(chance, 2), *chance.sample(great_windows(chance), 3)]
    kept = []
    for left, top, width, height in windows:
        if max(abs(left), abs(top), left + width, top + height) + 2 ** 51 > FAR:
            left, top, width, height = left // 3, top // 3, width // 2 + 1, height // 2 + 1
        kept.append((left, top, width, height))
    return kept


def across(window):
    """The window mirrored left to right."""
    left, top, width, height = window
    return -left - width, top, width, height


def down(window):
    """The window mirrored top to bottom."""
    left, top, width, height = window
    return left, -top - height, width, height


def over(window):
    """The window mirrored over the diagonal."""
    left, top, width, height = window
    return top, left, height, width


TURNS = ((mirrored, across), (flipped, down), (transposed, over))


def some_seen(chance, screen, shade, number):
    """So many places with what a shade shows there, now and then told wrongly."""
    seen = []
    for _ in range(number):
        x, y = chance.randrange(-FAR // 2, FAR // 2), chance.randrange(-9, 9)
        seen.append((x, y, is_dot(screen, shade, x, y) != (chance.random() < 0.02)))
    return seen


def some_picture(chance, screen, width):
    """A picture of a screen with a few bands."""
    picture = Picture(screen, width)
    for _ in range(6):
        row = chance.randrange(picture.height + 1)
        picture.insert(row, chance.choice([1, 2, 3, screen.period, FAR // 9]), chance.randrange(screen.shades + 1))
    return picture


class MirroredTest(unittest.TestCase):
    def test_inks(self):
        chance = random.Random(300)
        for screen, shade in some_screens(chance):
            second = Screen(some_levels(chance, 3)), chance.randrange(65)
            moves = [chance.randrange(-9, 9) * chance.choice([1, FAR // 9]) for _ in range(4)]
            plates = [(screen, shade, *moves[:2]), (*second, *moves[2:]), (screen, shade // 2, 0, 0)]
            for turned, turn in TURNS:
                # Differences of places turn like the windows of no place.
                others = [(turned(one), told, *turn((x, y, 0, 0))[:2]) for one, told, x, y in plates]
                for window in some_windows(chance):
                    self.assertEqual(ink_counts(others, turn(window)), ink_counts(plates, window))
                    self.assertEqual(covered(others, turn(window)), covered(plates, window))

    def test_alike(self):
        chance = random.Random(301)
        for screen, shade in some_screens(chance):
            second = stacked(first_levels(screen, 1), Screen(some_levels(chance, 2)))
            other = shade * 64 // screen.shades
            for turned, turn in TURNS:
                told = same_dots(screen, shade, second, other)
                self.assertIs(same_dots(turned(screen), shade, turned(second), other), told)
                for window in some_windows(chance):
                    many = unlike_count(screen, shade, second, other, window)
                    self.assertEqual(unlike_count(turned(screen), shade, turned(second), other, turn(window)), many)
                    first = first_unlike(turned(screen), shade, turned(second), other, turn(window))
                    self.assertEqual(first is None, many == 0)

    def test_moves(self):
        chance = random.Random(302)
        for screen, _ in some_screens(chance):
            half = screen.period // 2
            for x, y in ((half, 0), (-half, 3 * half), (0, 2 * half), (1, 0), (half, half // 2)):
                for turned, turn in TURNS:
                    there = moved(screen, x, y)
                    told = moved(turned(screen), *turn((x, y, 0, 0))[:2])
                    self.assertEqual(told, there and turned(there))
                    if there:
                        shift = shift_between(screen, there)
                        expected = turn((*shift, 0, 0))[:2]
                        told = shift_between(turned(screen), turned(there))
                        self.assertEqual(told, tuple(number % screen.period for number in expected))

    def test_told(self):
        chance = random.Random(303)
        for screen, shade in some_screens(chance):
            seen = some_seen(chance, screen, shade, 30)
            counted = [(window, dot_count(screen, shade, window)) for window in some_windows(chance)]
            for turned, turn in TURNS:
                other = [(*turn((x, y, 1, 1))[:2], dot) for x, y, dot in seen]
                for function in (shades_for, deciding, first_contradiction):
                    self.assertEqual(function(turned(screen), other), function(screen, seen))
                there = [(turn(window), number) for window, number in counted]
                self.assertEqual(shades_counted(turned(screen), there), shades_counted(screen, counted))

    def test_texts(self):
        chance = random.Random(304)
        for screen, shade in some_screens(chance):
            for window in small_windows(chance, 3):
                rows = show_dots(screen, shade, window).split("\n")
                left = show_dots(mirrored(screen), shade, across(window)).split("\n")
                self.assertEqual(left, [row[::-1] for row in rows])
                self.assertEqual(show_dots(flipped(screen), shade, down(window)).split("\n"), rows[::-1])
                columns = ["".join(column) for column in zip(*rows)]
                self.assertEqual(show_dots(transposed(screen), shade, over(window)).split("\n"), columns)

    def test_pictures(self):
        # Rows that are whole periods have as many dots mirrored left to right.
        chance = random.Random(305)
        for screen, _ in some_screens(chance):
            picture = some_picture(chance, screen, 3 * screen.period)
            other = Picture(mirrored(screen), 3 * screen.period)
            for height, shade in picture.bands:
                other.insert(other.height, height, shade)
            self.assertEqual(other.ink(), picture.ink())
            self.assertEqual(other == picture, mirrored(screen) == screen)


class TurnedOverTest(unittest.TestCase):
    """Each number d of each level as 3 - d: dots by a shade are blanks by all shades less it."""

    def test_dots_ranks_and_squares(self):
        chance = random.Random(306)
        for screen, shade in some_screens(chance):
            other, less = turned_over(screen), screen.shades - shade
            side = chance.randrange(screen.depth + 1)
            for window in some_windows(chance):
                places = window[2] * window[3]
                self.assertEqual(dot_count(other, less, window), places - dot_count(screen, shade, window))
                number = chance.randrange(places)
                threshold = nth_threshold(screen, window, number)
                self.assertEqual(nth_threshold(other, window, places - 1 - number), screen.shades - 1 - threshold)
                least, greatest = threshold_range(screen, window)
                expected = screen.shades - 1 - greatest, screen.shades - 1 - least
                self.assertEqual(threshold_range(other, window), expected)
                told = times_of(other, window, screen.shades - 1 - threshold)
                self.assertEqual(told, times_of(screen, window, threshold))
                shades = shades_with(screen, window, number)
                told = shades_with(other, window, places - number)
                self.assertEqual(told, shades and (screen.shades - shades[1], screen.shades - shades[0]))
                fuller = fuller_count(screen, shade, side, window)
                even = even_part(screen, shade, side) + even_part(other, less, side)
                if even == 4 ** side:
                    self.assertEqual([fuller, fuller_count(other, less, side, window)], [0, 0])
                else:
                    self.assertEqual(even, 4 ** side - 1)
                    self.assertEqual(fuller_count(other, less, side, window), places - fuller)

    def test_runs_and_edges(self):
        chance = random.Random(307)
        for screen, shade in some_screens(chance):
            other, less = turned_over(screen), screen.shades - shade
            for kind, turned in (("dot", "blank"), ("blank", "dot")):
                self.assertEqual(longest_across(other, less, turned), longest_across(screen, shade, kind))
                self.assertEqual(longest_down(other, less, turned), longest_down(screen, shade, kind))
                place = chance.randrange(-FAR, FAR)
                told = longest_in_row(other, less, place, turned)
                self.assertEqual(told, longest_in_row(screen, shade, place, kind))
                told = longest_in_column(other, less, place, turned)
                self.assertEqual(told, longest_in_column(screen, shade, place, kind))
            self.assertEqual(edges(other, less), edges(screen, shade))
            blanks = [(0, 0, 0, False), (0, 1, 0, True), (0, -1, 0, True), (0, 0, 1, True), (0, 0, -1, True)]
            numerator, denominator = match_share([(screen, shade, 0, 0)], blanks)
            self.assertEqual(lone_dots(other, less) * denominator, numerator * screen.shades)

    def test_inks_and_alike(self):
        chance = random.Random(308)
        for screen, shade in some_screens(chance):
            second = Screen(some_levels(chance, 3)), chance.randrange(65)
            plates = [(screen, shade, 5, -FAR), (*second, FAR, 0), (screen, shade // 2, 0, 0)]
            others = [(turned_over(one), one.shades - told, x, y) for one, told, x, y in plates]
            less = screen.shades - shade
            for window in some_windows(chance):
                self.assertEqual(ink_counts(others, window), ink_counts(plates, window)[::-1])
                pair = screen, shade, *second
                there = turned_over(screen), less, turned_over(second[0]), 64 - second[1]
                self.assertEqual(unlike_count(*there, window), unlike_count(*pair, window))
                self.assertEqual(first_unlike(*there, window), first_unlike(*pair, window))
                self.assertIs(same_dots(*there), same_dots(*pair))
            half = screen.period // 2
            self.assertEqual(moved(turned_over(screen), half, 0), turned_over(moved(screen, half, 0)))
            self.assertEqual(shift_between(turned_over(screen), turned_over(moved(screen, 0, half))), (0, half))

    def test_told(self):
        chance = random.Random(309)
        for screen, shade in some_screens(chance):
            other = turned_over(screen)
            seen = some_seen(chance, screen, shade, 30)
            turned = [(x, y, not dot) for x, y, dot in seen]
            shades = shades_for(screen, seen)
            expected = shades and (screen.shades - shades[1], screen.shades - shades[0])
            self.assertEqual(shades_for(other, turned), expected)
            self.assertEqual(deciding(other, turned), deciding(screen, seen)[::-1])
            self.assertEqual(first_contradiction(other, turned), first_contradiction(screen, seen))
            counted = [(window, dot_count(screen, shade, window)) for window in some_windows(chance)]
            turned = [(window, window[2] * window[3] - number) for window, number in counted]
            least, greatest = shades_counted(screen, counted)
            self.assertEqual(shades_counted(other, turned), (screen.shades - greatest, screen.shades - least))

    def test_texts_and_pictures(self):
        chance = random.Random(310)
        for screen, shade in some_screens(chance):
            other, less = turned_over(screen), screen.shades - shade
            text = show_screen(screen)
            self.assertEqual(show_screen(other), text.translate(str.maketrans("0123", "3210")))
            for window in small_windows(chance, 2):
                shown = show_dots(screen, shade, window).translate(str.maketrans("#.", ".#"))
                self.assertEqual(show_dots(other, less, window), shown)
            picture = some_picture(chance, screen, FAR)
            turned = Picture(other, FAR)
            for height, told in picture.bands:
                turned.insert(turned.height, height, screen.shades - told)
            self.assertEqual(turned.ink(), FAR * picture.height - picture.ink())


class MovedTest(unittest.TestCase):
    """A screen that is moved by half a period shows in windows that are moved as well what it showed."""

    def some_moved(self, chance):
        for screen, shade in some_screens(chance):
            half = screen.period // 2
            x, y = chance.choice([(half, 0), (0, half), (half, half), (-half, 3 * half), (2 * half, -half)])
            yield screen, shade, moved(screen, x, y), x, y

    def test_dots_ranks_and_squares(self):
        chance = random.Random(311)
        for screen, shade, other, x, y in self.some_moved(chance):
            side = chance.randrange(screen.depth + 1)
            for left, top, width, height in some_windows(chance):
                window, there = (left, top, width, height), (left + x, top + y, width, height)
                self.assertEqual(dot_count(other, shade, there), dot_count(screen, shade, window))
                for function, more in ((nth_dot, (0,)), (nth_dot, (3,))):
                    place = function(screen, shade, window, *more)
                    told = function(other, shade, there, *more)
                    self.assertEqual(told, place and (place[0] + x, place[1] + y))
                number = chance.randrange(width * height)
                self.assertEqual(nth_threshold(other, there, number), nth_threshold(screen, window, number))
                self.assertEqual(least_shade(other, there, number), least_shade(screen, window, number))
                self.assertEqual(fuller_count(other, shade, side, there), fuller_count(screen, shade, side, window))
                place = first_fuller(screen, shade, side, window)
                told = first_fuller(other, shade, side, there)
                self.assertEqual(told, place and (place[0] + x, place[1] + y))
                told = is_fuller(other, shade, side, *there[:2])
                self.assertIs(told, is_fuller(screen, shade, side, left, top))

    def test_runs_and_edges(self):
        chance = random.Random(312)
        for screen, shade, other, x, y in self.some_moved(chance):
            for kind in ("dot", "blank"):
                place = chance.randrange(-FAR, FAR) // 2
                told = longest_in_row(other, shade, place + y, kind)
                self.assertEqual(told, longest_in_row(screen, shade, place, kind))
                told = longest_in_column(other, shade, place + x, kind)
                self.assertEqual(told, longest_in_column(screen, shade, place, kind))
                self.assertEqual(longest_across(other, shade, kind), longest_across(screen, shade, kind))
                self.assertEqual(longest_down(other, shade, kind), longest_down(screen, shade, kind))
            self.assertEqual(edges(other, shade), edges(screen, shade))
            self.assertEqual(lone_dots(other, shade), lone_dots(screen, shade))
            self.assertEqual(islands_less_holes(other, shade), islands_less_holes(screen, shade))

    def test_a_moved_plate_is_the_moved_screen(self):
        chance = random.Random(313)
        for screen, shade, other, x, y in self.some_moved(chance):
            self.assertEqual(shift_between(screen, other), (x % screen.period, y % screen.period))
            plate, same = (screen, shade, x, y), (other, shade, 0, 0)
            third = (Screen(some_levels(chance, 4)), 100, 7, FAR)
            unlike = [(0, 0, 0, True), (1, 0, 0, False)]
            self.assertEqual(match_share([plate, same], unlike), (0, 1))
            for window in some_windows(chance):
                counts = ink_counts([plate, same], window)
                self.assertEqual([counts[1], counts[2], counts[3]], [0, 0, dot_count(other, shade, window)])
                self.assertEqual(ink_counts([plate, third], window), ink_counts([same, third], window))
                counts = ink_counts([(screen, shade, 0, 0), plate], window)
                self.assertEqual(unlike_count(screen, shade, other, shade, window), counts[1] + counts[2])
                place = first_unlike(screen, shade, other, shade, window)
                if place and max(place) <= FAR:
                    self.assertNotEqual(is_dot(screen, shade, *place), is_dot(other, shade, *place))
                    self.assertNotEqual(matches([plate], unlike[:1], *place), is_dot(screen, shade, *place))

    def test_told_and_texts(self):
        chance = random.Random(314)
        for screen, shade, other, x, y in self.some_moved(chance):
            seen = some_seen(chance, screen, shade, 30)
            there = [(u + x, v + y, dot) for u, v, dot in seen]
            for function in (shades_for, deciding, first_contradiction):
                self.assertEqual(function(other, there), function(screen, seen))
            windows = some_windows(chance)
            counted = [(window, dot_count(screen, shade, window)) for window in windows]
            told = [((left + x, top + y, *sizes), number) for (left, top, *sizes), number in counted]
            self.assertEqual(shades_counted(other, told), shades_counted(screen, counted))
            for left, top, width, height in windows[:4]:
                shown = show_dots(screen, shade, (left, top, width, height))
                self.assertEqual(show_dots(other, shade, (left + x, top + y, width, height)), shown)

    def test_pictures(self):
        # Rows put in at the top move the others by as many.
        chance = random.Random(315)
        for screen, _ in some_screens(chance):
            half = screen.period // 2
            picture = some_picture(chance, screen, FAR)
            lower = Picture(moved(screen, 0, half), FAR)
            for height, shade in picture.bands:
                lower.insert(lower.height, height, shade)
            lower.insert(0, half, 0)
            self.assertEqual(lower.ink(), picture.ink())
            self.assertEqual(lower.ink_between(half, picture.height), picture.ink())


class StackedTest(unittest.TestCase):
    """The shades of the first levels, by more levels."""

    def some_pairs(self, chance):
        for depth, number in ((2, 1), (5, 3), (50, 1), (50, 25), (50, 49)):
            coarse = Screen(some_levels(chance, number))
            screen = stacked(coarse, Screen(some_levels(chance, depth - number)))
            for shade in some_shades(chance, coarse, 2):
                yield screen, 4 ** (depth - number), coarse, shade

    def test_edges_and_alike(self):
        chance = random.Random(316)
        for screen, times, coarse, shade in self.some_pairs(chance):
            right, below = edges(coarse, shade)
            self.assertEqual(edges(screen, shade * times), (right * times, below * times))
            self.assertEqual(lone_dots(screen, shade * times), lone_dots(coarse, shade) * times)
            islands = islands_less_holes(coarse, shade)
            self.assertEqual(islands_less_holes(screen, shade * times), islands * times)
            self.assertIs(same_dots(screen, shade * times, coarse, shade), True)
            third = Screen(some_levels(chance, 3)), chance.randrange(65)
            for window in some_windows(chance):
                many = unlike_count(coarse, shade, *third, window)
                self.assertEqual(unlike_count(screen, shade * times, *third, window), many)
                first = first_unlike(*third, coarse, shade, window)
                self.assertEqual(first_unlike(*third, screen, shade * times, window), first)
                plate, other = (coarse, shade, -3, FAR), (screen, shade * times, -3, FAR)
                told = ink_counts([other, (*third, 0, 0)], window)
                self.assertEqual(told, ink_counts([plate, (*third, 0, 0)], window))

    def test_told(self):
        chance = random.Random(317)
        for screen, times, coarse, shade in self.some_pairs(chance):
            seen = some_seen(chance, coarse, shade, 12)
            counted = [(window, dot_count(coarse, shade, window)) for window in some_windows(chance)]
            for function, told in ((shades_for, seen), (shades_counted, counted)):
                # The first levels have of all the shades those that are multiples.
                shades = function(screen, told)
                expected = None
                if shades and -(-shades[0] // times) <= shades[1] // times:
                    expected = -(-shades[0] // times), shades[1] // times
                self.assertEqual(function(coarse, told), expected)

    def test_texts_and_pictures(self):
        chance = random.Random(318)
        for screen, times, coarse, shade in self.some_pairs(chance):
            text = show_screen(screen)
            self.assertEqual(text[:5 * coarse.depth - 1], show_screen(coarse))
            self.assertEqual(read_screen(text), screen)
            for window in small_windows(chance, 2):
                self.assertEqual(show_dots(screen, shade * times, window), show_dots(coarse, shade, window))
            picture = some_picture(chance, coarse, 2 ** 60)
            deep = Picture(screen, 2 ** 60)
            for height, told in picture.bands:
                deep.insert(deep.height, height, told * times)
            self.assertEqual(deep.ink(), picture.ink())


class SameTest(unittest.TestCase):
    def test_edges_and_inks(self):
        chance = random.Random(319)
        for screen, shade in some_screens(chance):
            period = chance.randrange(-FAR, FAR), chance.randrange(-FAR, FAR), screen.period, screen.period
            here, right, below = [(screen, shade, x, y) for x, y in ((0, 0), (-1, 0), (0, -1))]
            beside, under = ink_counts([here, right], period), ink_counts([here, below], period)
            self.assertEqual(edges(screen, shade), (beside[1] + beside[2], under[1] + under[2]))
            self.assertEqual(covered([here, right], period) - shade, beside[2])
            square = match_count([here], [(0, x, y, True) for x, y in product((0, 1), repeat=2)], period)
            self.assertEqual(islands_less_holes(screen, shade), shade - beside[3] - under[3] + square)
            # All dots are alone exactly if no two stand together.
            alone = lone_dots(screen, shade)
            self.assertEqual(alone == shade, beside[3] == 0 and under[3] == 0)
            if alone == shade and shade:
                self.assertEqual(edges(screen, shade), (2 * shade, 2 * shade))
                self.assertEqual([longest_across(screen, shade, "dot"), longest_down(screen, shade, "dot")], [1, 1])
            beside = [(0, 0, 0, True), (0, 1, 0, False)]
            self.assertEqual(edges(screen, shade)[0] == 0, match_share([(screen, shade, 0, 0)], beside) == (0, 1))

    def test_told_and_what_is_shown(self):
        chance = random.Random(320)
        for screen, shade in some_screens(chance):
            for left, top, width, height in small_windows(chance, 2):
                rows = show_dots(screen, shade, (left, top, width, height)).split("\n")
                seen = [(left + x, top + y, sign == "#") for y, row in enumerate(rows) for x, sign in enumerate(row)]
                dots = dot_count(screen, shade, (left, top, width, height))
                self.assertEqual(sum(dot for _, _, dot in seen), dots)
                least, greatest = shades_for(screen, seen)
                self.assertTrue(least <= shade <= greatest)
                # All shades with so many dots show the same, for dots come one behind the other.
                self.assertEqual(shades_with(screen, (left, top, width, height), dots), (least, greatest))
                self.assertEqual(shades_counted(screen, [((left, top, width, height), dots)]), (least, greatest))
                self.assertIsNone(first_contradiction(screen, seen))
                first = next(((x, y) for x, y, dot in seen if dot), None)
                self.assertEqual(nth_dot(screen, shade, (left, top, width, height), 0), first)

    def test_deciding_and_ranks(self):
        chance = random.Random(321)
        for screen, shade in some_screens(chance):
            for left, top, width, height in small_windows(chance, 2):
                places = [(x, y) for x in range(left, left + width) for y in range(top, top + height)]
                seen = [(x, y, is_dot(screen, shade, x, y)) for x, y in places]
                dots = dot_count(screen, shade, (left, top, width, height))
                greatest, least = deciding(screen, seen)
                self.assertEqual(greatest is None, dots == 0)
                self.assertEqual(least is None, dots == len(places))
                if dots:
                    threshold = nth_threshold(screen, (left, top, width, height), dots - 1)
                    self.assertEqual(screen.threshold(*places[greatest]), threshold)
                if dots < len(places):
                    threshold = nth_threshold(screen, (left, top, width, height), dots)
                    self.assertEqual(screen.threshold(*places[least]), threshold)

    def test_pictures_and_dots(self):
        chance = random.Random(322)
        for screen, shade in some_screens(chance):
            width = chance.choice([1, 7, screen.period, FAR])
            picture = some_picture(chance, screen, width)
            top = 0
            for height, told in picture.bands:
                window = (0, top, width, height)
                self.assertEqual(picture.ink_between(top, height), dot_count(screen, told, window))
                # The same by two plates, of all dots and of those of the band.
                plates = [(screen, told, 0, 0), (screen, screen.shades, 5, 5)]
                self.assertEqual(picture.ink_between(top, height), ink_counts(plates, window)[3])
                top += height
            self.assertEqual(picture.preview(("paint", 0, top, shade)), count_rows(screen, shade, width, top))
            self.assertEqual(picture.preview(("paint", 0, top, screen.shades)), width * top)

    def test_limits_and_pictures(self):
        chance = random.Random(323)
        for screen, _ in some_screens(chance):
            picture = some_picture(chance, screen, 5)
            ink = picture.ink()
            steps = [("insert", 0, height, shade) for height, shade in reversed(picture.bands)]
            most = max([0] + [picture_of(screen, 5, steps[:number]).ink() for number in range(1, len(steps) + 1)])
            limited = InkPicture(screen, 5, most)
            self.assertEqual(limited.preview(*steps), ink)
            for word, *items in steps:
                getattr(limited, word)(*items)
            self.assertEqual([limited.bands, limited.ink(), limited == picture], [picture.bands, ink, False])

    def test_the_console(self):
        chance = random.Random(324)
        for screen, shade in some_screens(chance):
            console = Console()
            console.execute(f"picture {FAR} {show_screen(screen)}")
            picture = some_picture(chance, screen, FAR)
            for height, told in reversed(picture.bands):
                console.execute(f"insert 0 {height} {told}")
            shown = " ".join(f"{height}x{told}" for height, told in picture.bands)
            self.assertEqual([console.execute("show"), console.execute("ink")], [shown, str(picture.ink())])
            self.assertEqual(console.execute(f"dots {shade} 0 0 {FAR} {FAR}"), str(dot_count(screen, shade, (0, 0, FAR, FAR))))
            self.assertEqual(console.execute(f"alone {shade}"), str(lone_dots(screen, shade)))


def count_rows(screen, shade, width, height):
    """The dots of so many rows, which may be more than a window has."""
    picture = Picture(screen, width)
    picture.insert(0, min(height, FAR), shade)
    if height > FAR:
        picture.insert(FAR, height - FAR, shade)
    return picture.ink()


def picture_of(screen, width, steps):
    """A picture behind some calls."""
    picture = Picture(screen, width)
    for word, *items in steps:
        getattr(picture, word)(*items)
    return picture


class AtOnceTest(unittest.TestCase):
    """Point 1: what would never end if it went over places."""

    def test_the_deepest_screens(self):
        chance = random.Random(325)
        for left in (-FAR, 0, FAR):
            screen, second = Screen(some_levels(chance, 50)), Screen(some_levels(chance, 50))
            shade, other = chance.randrange(screen.shades), chance.randrange(screen.shades)
            window = (left, -left, FAR, FAR)
            self.assertTrue(all(0 < number < screen.shades for number in edges(screen, shade)))
            lone_dots(screen, shade)
            islands_less_holes(screen, shade)
            plates = [(screen, shade, FAR, -FAR), (second, other, -FAR, left), (screen, other, 1, FAR - 1)]
            self.assertEqual(sum(ink_counts(plates, window)), FAR * FAR)
            covered(plates, window)
            self.assertGreater(unlike_count(screen, shade, second, other, window), 0)
            self.assertIsNotNone(first_unlike(screen, shade, second, other, window))
            same_dots(screen, shade, second, other)
            seen = [(chance.randrange(-FAR, FAR), left, chance.random() < 0.5) for _ in range(400)]
            for function in (shades_for, deciding, first_contradiction):
                function(screen, seen)
            counted = [(window, dot_count(screen, shade, window))] * 20
            least, greatest = shades_counted(screen, counted)
            self.assertTrue(least <= shade <= greatest)
            show_dots(screen, shade, (left, left, 4000, 1))
            picture = InkPicture(screen, FAR, FAR * FAR * 30)
            for _ in range(30):
                picture.insert(chance.randrange(picture.height + 1), FAR, chance.randrange(screen.shades))
            picture.ink()
            picture.preview(*[("paint", 5, FAR, number) for number in range(12)])


if __name__ == "__main__":
    unittest.main()
