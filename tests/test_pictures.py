"""Points 1 to 7 and section 13: live pictures with undo and a limit of ink."""

import random
import unittest

from plain import (
    FAR, LONG, WRONG, WRONG_SCREENS, check_errors, small_dots, some_levels, some_shades, wrong_shades,
)

from ditherdepths.dots import dot_count
from ditherdepths.errors import (
    DitherError, InvalidLimit, InvalidNumber, InvalidOperation, InvalidRows, InvalidScreen, InvalidShade, Nothing,
    OverInk,
)
from ditherdepths.pictures import InkPicture, Picture
from ditherdepths.screens import Screen, bayer

BEYOND = WRONG + [-1, LONG, -LONG, "0", (0,)]
WRONG_NUMBERS = BEYOND + [0, FAR + 1]


class SlowPicture:
    """A picture as a list with the shade of each row."""

    def __init__(self, levels, width):
        self.levels, self.width, self.rows, self.calls, self.earlier = levels, width, [], [], []

    def after(self, rows, word, row, number, *shades):
        taken = 0 if word == "insert" else number
        return rows[:row] + list(shades) * number + rows[row + taken:]

    def call(self, *call):
        self.calls.append(call)
        self.earlier.append(self.rows)
        self.rows = self.after(self.rows, *call)

    def undo(self):
        self.calls.pop()
        self.rows = self.earlier.pop()

    def bands(self):
        bands = []
        for shade in self.rows:
            if bands and bands[-1][1] == shade:
                bands[-1] = (bands[-1][0] + 1, shade)
            else:
                bands.append((1, shade))
        return bands

    def ink(self, rows, first=0):
        total = 0
        for y, shade in enumerate(rows, first):
            dot = small_dots(self.levels, shade)
            total += sum(dot(x, y) for x in range(self.width))
        return total


def some_call(chance, height, shades):
    """A call that a picture of so many rows takes."""
    word = chance.choice(["insert", "remove", "paint"]) if height else "insert"
    if word == "insert":
        row, number = chance.choice([0, height, chance.randrange(height + 1)]), chance.randrange(1, 5)
    else:
        row = chance.choice([0, height - 1, chance.randrange(height)])
        number = chance.choice([1, height - row, chance.randrange(1, height - row + 1)])
    return (word, row, number) if word == "remove" else (word, row, number, chance.choice(shades))


def perform(picture, call):
    """Makes a call that is told as in a log."""
    word, *items = call
    return getattr(picture, word)(*items)


def state(picture):
    """All that a picture tells."""
    return picture.bands, picture.height, picture.log(), picture.ink(), picture.width, picture.screen


class RowByRowTest(unittest.TestCase):
    def test_random_calls(self):
        chance = random.Random(270)
        for depth in (1, 2, 3):
            for _ in range(12):
                levels, width = some_levels(chance, depth), chance.randrange(1, 11)
                picture, slow = Picture(Screen(levels), width), SlowPicture(levels, width)
                # Few shades, so that bands that are alike often meet.
                shades = chance.sample(range(4 ** depth + 1), 3)
                for _ in range(30):
                    if slow.calls and chance.random() < 0.25:
                        self.assertIsNone(picture.undo())
                        slow.undo()
                    else:
                        call = some_call(chance, len(slow.rows), shades)
                        self.assertIsNone(perform(picture, call))
                        slow.call(*call)
                    self.check_like(picture, slow)
                    self.check_parts(chance, picture, slow, shades)

    def check_like(self, picture, slow):
        self.assertEqual(picture.bands, slow.bands())
        self.assertEqual(picture.height, len(slow.rows))
        self.assertEqual(picture.log(), slow.calls)
        self.assertEqual(picture.ink(), slow.ink(slow.rows))

    def check_parts(self, chance, picture, slow, shades):
        before = state(picture)
        if slow.rows:
            row = chance.randrange(len(slow.rows))
            number = chance.randrange(1, len(slow.rows) - row + 1)
            part = slow.ink(slow.rows[row:row + number], row)
            self.assertEqual(picture.ink_between(row, number), part)
        rows, steps = slow.rows, []
        for _ in range(chance.choice([0, 1, 2, 12])):
            steps.append(some_call(chance, len(rows), shades))
            rows = slow.after(rows, *steps[-1])
        self.assertEqual(picture.preview(*steps), slow.ink(rows))
        self.assertEqual(state(picture), before)

    def test_undo_to_the_beginning(self):
        chance = random.Random(271)
        screen = Screen(some_levels(chance, 2))
        picture = Picture(screen, 5)
        states = [state(picture)]
        for _ in range(40):
            perform(picture, some_call(chance, picture.height, range(17)))
            states.append(state(picture))
        for expected in reversed(states[:-1]):
            picture.undo()
            self.assertEqual(state(picture), expected)
        with self.assertRaises(Nothing):
            picture.undo()
        self.assertEqual(picture, Picture(screen, 5))


class BandsTest(unittest.TestCase):
    def picture(self, *bands):
        picture = Picture(bayer(2), 4)
        for height, shade in bands:
            picture.insert(picture.height, height, shade)
        return picture

    def test_without_rows(self):
        picture = Picture(bayer(2), FAR)
        self.assertEqual([picture.bands, picture.height, picture.log(), picture.ink()], [[], 0, [], 0])
        self.assertEqual([picture.screen, picture.width, picture.preview()], [bayer(2), FAR, 0])
        for call in (picture.remove, picture.ink_between):
            with self.assertRaises(InvalidRows):
                call(0, 1)
        with self.assertRaises(InvalidRows):
            picture.paint(0, 1, 5)
        with self.assertRaises(InvalidRows):
            picture.insert(1, 1, 5)

    def test_insert(self):
        for row, expected in [
            (0, [(1, 7), (2, 5), (3, 6)]), (1, [(1, 5), (1, 7), (1, 5), (3, 6)]), (2, [(2, 5), (1, 7), (3, 6)]),
            (4, [(2, 5), (2, 6), (1, 7), (1, 6)]), (5, [(2, 5), (3, 6), (1, 7)]),
        ]:
            picture = self.picture((2, 5), (3, 6))
            picture.insert(row, 1, 7)
            self.assertEqual(picture.bands, expected)

    def test_insert_beside_the_same_shade(self):
        for row, shade, expected in [
            (0, 5, [(6, 5), (3, 6)]), (1, 5, [(6, 5), (3, 6)]), (2, 5, [(6, 5), (3, 6)]), (2, 6, [(2, 5), (7, 6)]),
            (5, 6, [(2, 5), (7, 6)]), (5, 5, [(2, 5), (3, 6), (4, 5)]), (0, 6, [(4, 6), (2, 5), (3, 6)]),
        ]:
            picture = self.picture((2, 5), (3, 6))
            picture.insert(row, 4, shade)
            self.assertEqual(picture.bands, expected)
            self.assertEqual(picture.height, 9)

    def test_remove(self):
        for row, number, expected in [
            (0, 1, [(1, 5), (3, 6), (2, 5)]), (0, 2, [(3, 6), (2, 5)]), (2, 3, [(4, 5)]), (1, 4, [(3, 5)]),
            (1, 5, [(2, 5)]), (3, 1, [(2, 5), (2, 6), (2, 5)]), (0, 7, []), (6, 1, [(2, 5), (3, 6), (1, 5)]),
            (1, 1, [(1, 5), (3, 6), (2, 5)]), (4, 3, [(2, 5), (2, 6)]),
        ]:
            picture = self.picture((2, 5), (3, 6), (2, 5))
            picture.remove(row, number)
            self.assertEqual(picture.bands, expected)

    def test_paint(self):
        for row, number, shade, expected in [
            (0, 7, 6, [(7, 6)]), (2, 3, 5, [(7, 5)]), (3, 1, 7, [(2, 5), (1, 6), (1, 7), (1, 6), (2, 5)]),
            (0, 1, 5, [(2, 5), (3, 6), (2, 5)]), (1, 1, 6, [(1, 5), (4, 6), (2, 5)]), (5, 2, 6, [(2, 5), (5, 6)]),
            (6, 1, 0, [(2, 5), (3, 6), (1, 5), (1, 0)]), (1, 5, 7, [(1, 5), (5, 7), (1, 5)]),
        ]:
            picture = self.picture((2, 5), (3, 6), (2, 5))
            picture.paint(row, number, shade)
            self.assertEqual(picture.bands, expected)

    def test_a_call_that_shows_nothing_new_is_a_call(self):
        picture = self.picture((2, 5))
        picture.paint(0, 2, 5)
        self.assertEqual(picture.log(), [("insert", 0, 2, 5), ("paint", 0, 2, 5)])
        picture.undo()
        self.assertEqual(picture.bands, [(2, 5)])
        picture.undo()
        self.assertEqual(picture.bands, [])

    def test_undo_behind_a_refused_call(self):
        picture = self.picture((2, 5), (3, 6))
        for wrong in (lambda: picture.remove(4, 2), lambda: picture.insert(6, 1, 1), lambda: picture.paint(0, 1, 17)):
            before = state(picture)
            with self.assertRaises(DitherError):
                wrong()
            self.assertEqual(state(picture), before)
        picture.undo()
        self.assertEqual(picture.bands, [(2, 5)])
        self.assertEqual(picture.log(), [("insert", 0, 2, 5)])

    def test_a_new_call_behind_undo(self):
        picture = self.picture((2, 5), (3, 6))
        picture.undo()
        picture.insert(0, 1, 9)
        self.assertEqual(picture.log(), [("insert", 0, 2, 5), ("insert", 0, 1, 9)])
        picture.undo()
        picture.undo()
        with self.assertRaises(Nothing):
            picture.undo()
        self.assertEqual(picture.log(), [])

    def test_returned_lists_are_new_ones(self):
        picture = self.picture((2, 5), (3, 6))
        before = state(picture)
        for told in (picture.bands, picture.log()):
            self.assertIsInstance(told, list)
            self.assertTrue(all(isinstance(item, tuple) for item in told))
            told.clear()
            told.append(None)
        picture.screen.levels.clear()
        self.assertEqual(state(picture), before)
        self.assertIsNot(picture.bands, picture.bands)
        self.assertIsNot(picture.log(), picture.log())

    def test_properties(self):
        picture = InkPicture(bayer(2), 4, 0)
        for name in ("screen", "width", "bands", "height", "limit"):
            with self.assertRaises(AttributeError):
                setattr(picture, name, 1)
        self.assertFalse(hasattr(Picture(bayer(2), 4), "limit"))


class EqualTest(unittest.TestCase):
    def test_pictures(self):
        four = bayer(2)
        one, other = Picture(four, 4), Picture(bayer(2), 4)
        self.assertIs(one == other, True)
        self.assertIs(one != other, False)
        self.assertIs(one == Picture(four, 5), False)
        self.assertIs(one == Picture(bayer(1), 4), False)
        one.insert(0, 4, 6)
        self.assertIs(one == other, False)
        # The way to the bands is told by the log alone.
        other.insert(0, 1, 6)
        other.insert(1, 2, 6)
        other.insert(0, 9, 16)
        other.remove(0, 8)
        other.paint(0, 1, 6)
        self.assertIs(one == other, True)
        self.assertNotEqual(one.log(), other.log())
        other.paint(3, 1, 7)
        self.assertIs(one == other, False)
        other.undo()
        self.assertIs(one == other, True)

    def test_with_and_without_a_limit(self):
        four = bayer(2)
        for limit in (0, 5, 10 ** 60):
            limited = InkPicture(four, 4, limit)
            self.assertIs(limited == InkPicture(bayer(2), 4, limit), True)
            self.assertIs(limited == InkPicture(four, 4, limit + 1), False)
            self.assertIs(limited == InkPicture(four, 5, limit), False)
            self.assertIs(limited == InkPicture(bayer(1), 4, limit), False)
            self.assertIs(limited == Picture(four, 4), False)
            self.assertIs(Picture(four, 4) == limited, False)
            self.assertIs(Picture(four, 4) != limited, True)
        limited = InkPicture(four, 4, 5)
        limited.insert(0, 1, 6)
        self.assertIs(limited == InkPicture(four, 4, 5), False)
        limited.undo()
        self.assertIs(limited == InkPicture(four, 4, 5), True)

    def test_any_value(self):
        for picture in (Picture(bayer(1), 2), InkPicture(bayer(1), 2, 0)):
            for value in WRONG + [0, 2, bayer(1), [], [(1, 2)], "none"]:
                self.assertIs(picture == value, False)
                self.assertIs(picture != value, True)


class InkTest(unittest.TestCase):
    def test_great_pictures(self):
        chance = random.Random(272)
        for depth in (1, 2, 49, 50):
            screen = Screen(some_levels(chance, depth))
            for width in (1, 2, screen.period - 1, screen.period, FAR - 1, FAR):
                heights = [chance.choice([1, 2, FAR // 7, screen.period, 10 ** 20]) for _ in range(5)]
                shades = chance.sample(sorted(set(some_shades(chance, screen, 5))), 5)
                picture = Picture(screen, width)
                top = total = 0
                for height, shade in zip(heights, shades):
                    picture.insert(top, height, shade)
                    part = dot_count(screen, shade, (0, top, width, height))
                    self.assertEqual(picture.ink_between(top, height), part)
                    top += height
                    total += part
                    self.assertEqual(picture.ink(), total)
                self.assertEqual(picture.bands, list(zip(heights, shades)))
                self.assertEqual(picture.height, top)
                half = chance.randrange(1, top)
                parts = [picture.ink_between(0, half), picture.ink_between(half, top - half)]
                self.assertEqual(sum(parts), total)

    def test_rows_beyond_the_bounds_of_places(self):
        chance = random.Random(273)
        screen = Screen(some_levels(chance, 50))
        picture = Picture(screen, FAR)
        for _ in range(9):
            picture.insert(chance.choice([0, picture.height]), FAR, screen.shades)
        self.assertEqual([picture.bands, picture.height], [[(9 * FAR, screen.shades)], 9 * FAR])
        self.assertEqual(picture.ink(), 9 * FAR * FAR)
        picture.paint(7 * FAR + 5, 2 * FAR - 5, 3)
        expected = dot_count(screen, 3, (0, (7 * FAR + 5) % screen.period, FAR, FAR - 5))
        self.assertEqual(picture.ink_between(7 * FAR + 5, FAR - 5), expected)
        self.assertEqual(picture.ink_between(3, 7 * FAR), 7 * FAR * FAR)
        picture.remove(0, 9 * FAR)
        self.assertEqual(picture.bands, [])

    def test_whole_periods(self):
        for depth in (1, 7, 50):
            screen = Screen(some_levels(random.Random(274), depth))
            picture = Picture(screen, screen.period)
            picture.insert(0, screen.period, 3)
            self.assertEqual(picture.ink(), 3)
            # A band that begins within a period and is as long has as many.
            picture.insert(0, 1, 0)
            self.assertEqual([picture.ink(), picture.ink_between(1, screen.period)], [3, 3])

    def test_200_calls(self):
        # Each one parts a band, and all ink is counted behind each.
        chance = random.Random(275)
        screen = Screen(some_levels(chance, 50))
        picture = InkPicture(screen, FAR, 10 ** 90)
        picture.insert(0, FAR, 5)
        for _ in range(199):
            picture.insert(chance.randrange(picture.height), FAR, chance.randrange(screen.shades))
        self.assertEqual(picture.height, 200 * FAR)
        self.assertGreater(len(picture.bands), 390)
        half = picture.height // 3
        parts = picture.ink_between(0, half) + picture.ink_between(half, picture.height - half)
        self.assertEqual(picture.ink(), parts)
        steps = [("insert", chance.randrange(FAR), FAR, chance.randrange(screen.shades)) for _ in range(12)]
        self.assertGreater(picture.preview(*steps), parts)
        for _ in range(200):
            picture.undo()
        self.assertEqual([picture.bands, picture.ink()], [[], 0])


class PreviewTest(unittest.TestCase):
    def test_no_step_and_twelve(self):
        picture = Picture(bayer(2), 4)
        picture.insert(0, 4, 6)
        self.assertEqual(picture.preview(), 6)
        steps = [("insert", 0, 4, 16)] * 6 + [("remove", 0, 4)] * 6
        self.assertEqual(picture.preview(*steps), 6)
        self.assertEqual(picture.preview(*steps[:6]), 6 * 16 + 6)
        self.assertEqual([picture.bands, picture.log()], [[(4, 6)], [("insert", 0, 4, 6)]])

    def test_the_log_of_another_picture(self):
        chance = random.Random(276)
        screen = Screen(some_levels(chance, 3))
        picture = Picture(screen, 7)
        for _ in range(12):
            perform(picture, some_call(chance, picture.height, range(65)))
        self.assertEqual(Picture(screen, 7).preview(*picture.log()), picture.ink())

    def test_wrong_steps(self):
        wrong = WRONG + [
            0, "insert", ["insert", 0, 1, 6], ("insert",), ("insert", 0), ("insert", 0, 1), ("insert", 0, 1, 6, 6),
            ("remove", 0), ("remove", 0, 1, 6), ("paint", 0, 1), ("paint", 0, 1, 6, 6), ("undo",), ("undo", 0, 1),
            ("Insert", 0, 1, 6), ("insert ", 0, 1, 6), (b"insert", 0, 1, 6), (None, 0, 1, 6), (["insert"], 0, 1, 6),
            ({}, 0, 1), ("", 0, 1), (("insert", 0, 1, 6),), [("insert", 0, 1, 6)], ("ink",), ("preview", 0, 1, 2),
        ]
        for picture in (Picture(bayer(2), 4), InkPicture(bayer(2), 4, 7)):
            picture.insert(0, 4, 6)
            before = state(picture)
            for value in wrong:
                # All steps are looked at first, ahead of the errors of the calls.
                for steps in ([value], [("remove", 0, 1), value], [("remove", 9, 1), value], [value, ("paint", 0, 9, 17)]):
                    with self.assertRaises(InvalidOperation):
                        picture.preview(*steps)
                with self.assertRaises(InvalidOperation):
                    picture.preview(*[("paint", None, None, None)] * 11, value)
            self.assertEqual(state(picture), before)

    def test_errors_of_the_calls_in_their_sequence(self):
        picture = Picture(bayer(2), 4)
        picture.insert(0, 4, 6)
        before = state(picture)
        cases = [
            (InvalidRows, ("remove", 4, 1)), (InvalidRows, ("remove", 3, 2)), (InvalidRows, ("paint", 0, 5, 6)),
            (InvalidShade, ("paint", 0, 4, 17)), (InvalidNumber, ("insert", 4, 0, 6)), (InvalidRows, ("insert", 5, 0, 6)),
            (InvalidShade, ("insert", 4, 1, -1)), (InvalidRows, ("remove", None, None)), (InvalidRows, ("paint", 0, "1", 0)),
        ]
        for error, step in cases:
            for other, second in cases:
                with self.assertRaises(error):
                    picture.preview(step, second)
                with self.assertRaises(error):
                    picture.preview(("paint", 0, 1, 0), step, second)
        # What is no call yet may be one behind other steps.
        self.assertEqual(picture.preview(("insert", 4, 1, 16), ("paint", 4, 1, 0)), 6)
        self.assertEqual(state(picture), before)


class LimitTest(unittest.TestCase):
    def over(self, count, call, *arguments):
        with self.assertRaises(OverInk) as caught:
            call(*arguments)
        self.assertIs(caught.exception.__class__, OverInk)
        self.assertEqual(caught.exception.count, count)

    def test_just_enough_and_just_too_small(self):
        four = bayer(2)
        just = InkPicture(four, 4, 6)
        just.insert(0, 4, 6)
        self.assertEqual([just.ink(), just.limit], [6, 6])
        self.over(7, just.paint, 1, 2, 9)
        self.over(7, just.insert, 0, 1, 2)
        small = InkPicture(four, 4, 5)
        self.over(6, small.insert, 0, 4, 6)
        self.assertEqual(state(small), ([], 0, [], 0, 4, four))

    def test_taking_out_rows_can_make_more_ink(self):
        # By the shade 1 a row has a dot if it is even.
        picture = InkPicture(bayer(1), 2, 1)
        for row, shade in enumerate((0, 1, 0, 1)):
            picture.insert(row, 1, shade)
        self.assertEqual(picture.ink(), 0)
        before = state(picture)
        self.over(2, picture.remove, 0, 1)
        self.over(2, picture.preview, ("remove", 0, 1))
        self.over(2, picture.preview, ("paint", 2, 1, 0), ("remove", 0, 1), ("paint", 0, 1, 0))
        self.assertEqual(picture.preview(("remove", 2, 1), ("remove", 0, 1), ("paint", 0, 1, 0)), 0)
        self.assertEqual(state(picture), before)
        picture.remove(2, 1)
        self.assertEqual(picture.ink(), 1)
        picture.undo()
        just = InkPicture(bayer(1), 2, 2)
        just.insert(0, 1, 0)
        for row in (1, 2, 3):
            just.insert(row, 1, row % 2)
        self.assertEqual([just.preview(("remove", 0, 1)), just.remove(0, 1), just.ink()], [2, None, 2])
        picture.remove(0, 2)
        self.assertEqual([picture.ink(), picture.bands], [0, [(1, 0), (1, 1)]])

    def test_behind_the_errors_of_a_picture(self):
        picture = InkPicture(bayer(2), 4, 0)
        picture.insert(0, 4, 0)
        for error, call, arguments in [
            (InvalidRows, picture.insert, (5, 4, 16)), (InvalidNumber, picture.insert, (0, 0, 16)),
            (InvalidShade, picture.insert, (0, 1, 17)), (InvalidRows, picture.paint, (4, 1, 16)),
            (InvalidRows, picture.paint, (0, 5, 16)), (InvalidShade, picture.paint, (0, 4, 17)),
            (InvalidRows, picture.remove, (0, 5)),
        ]:
            with self.assertRaises(error):
                call(*arguments)
        self.over(16, picture.paint, 0, 4, 16)
        self.over(4, picture.insert, 2, 1, 16)
        self.assertEqual(picture.log(), [("insert", 0, 4, 0)])

    def test_previews_step_by_step(self):
        picture = InkPicture(bayer(2), 4, 6)
        picture.insert(0, 4, 6)
        before = state(picture)
        self.assertEqual(picture.preview(("remove", 0, 1), ("insert", 0, 1, 0)), 3 + 1)
        # The step that is too much tells its own count, though a later one would bring less.
        self.over(16, picture.preview, ("paint", 0, 4, 16), ("remove", 0, 4))
        self.over(10, picture.preview, ("insert", 4, 1, 16), ("remove", 9, 9))
        with self.assertRaises(InvalidRows):
            picture.preview(("remove", 9, 9), ("insert", 4, 1, 16))
        with self.assertRaises(InvalidOperation):
            picture.preview(("insert", 4, 1, 16), ("remove", 9))
        self.over(10, picture.preview, ("paint", 0, 4, 6), ("insert", 0, 4, 0), ("insert", 0, 1, 16))
        self.assertEqual(picture.preview(), 6)
        self.assertEqual(state(picture), before)

    def test_undo_is_not_limited(self):
        picture = InkPicture(bayer(2), 4, 16)
        picture.insert(0, 4, 16)
        picture.paint(0, 4, 0)
        picture.undo()
        self.assertEqual(picture.ink(), 16)
        self.over(20, picture.insert, 0, 1, 16)
        picture.undo()
        with self.assertRaises(Nothing):
            picture.undo()

    def test_like_a_picture_without_a_limit(self):
        chance = random.Random(277)
        refused = 0
        for limit in (0, 3, 12, 40):
            levels = some_levels(chance, 2)
            picture, slow = InkPicture(Screen(levels), 5, limit), SlowPicture(levels, 5)
            for _ in range(60):
                if slow.calls and chance.random() < 0.2:
                    picture.undo()
                    slow.undo()
                    continue
                call = some_call(chance, len(slow.rows), range(17))
                count = slow.ink(slow.after(slow.rows, *call))
                if count > limit:
                    refused += 1
                    before = state(picture)
                    self.over(count, perform, picture, call)
                    self.over(count, picture.preview, call)
                    self.assertEqual(state(picture), before)
                else:
                    self.assertEqual(picture.preview(call), count)
                    perform(picture, call)
                    slow.call(*call)
                self.assertEqual([picture.bands, picture.log()], [slow.bands(), slow.calls])
        self.assertGreater(refused, 20)

    def test_great_limits(self):
        screen = bayer(50)
        picture = InkPicture(screen, FAR, 10 ** 60)
        picture.insert(0, FAR, screen.shades)
        self.assertEqual(picture.ink(), 10 ** 60)
        self.over(10 ** 60 + FAR, picture.insert, 0, 1, screen.shades)
        small = InkPicture(screen, FAR, 10 ** 60 - 1)
        self.over(10 ** 60, small.insert, 0, FAR, screen.shades)

    def test_it_is_a_picture(self):
        self.assertIsInstance(InkPicture(bayer(1), 1, 0), Picture)


class WrongTest(unittest.TestCase):
    def test_made(self):
        for screen in (bayer(1), bayer(50)):
            both = [(InvalidScreen, WRONG_SCREENS), (InvalidNumber, WRONG_NUMBERS)]
            check_errors(self, Picture, (screen, FAR), both)
            check_errors(self, InkPicture, (screen, FAR, 0), [*both, (InvalidLimit, WRONG + [-1, -LONG, "0", (0,)])])
        self.assertEqual(InkPicture(bayer(1), 1, LONG).limit, LONG)

    def test_calls(self):
        for screen in (bayer(1), bayer(50)):
            for make in (lambda: Picture(screen, 3), lambda: InkPicture(screen, 3, 10 ** 99)):
                picture = make()
                picture.insert(0, 7, 1)
                rows, shades = (InvalidRows, BEYOND + [2 * FAR]), (InvalidShade, wrong_shades(screen))
                check_errors(self, picture.insert, (7, FAR, 2), [rows, (InvalidNumber, WRONG_NUMBERS), shades])
                numbers = (InvalidRows, BEYOND + [0, FAR + 7])
                check_errors(self, picture.paint, (FAR, 7, screen.shades), [rows, numbers, shades])
                check_errors(self, picture.ink_between, (FAR + 6, 1), [rows, numbers])
                check_errors(self, picture.remove, (6, 1), [rows, numbers])
                self.assertEqual(picture.height, FAR + 6)
                self.assertEqual([call[0] for call in picture.log()], ["insert", "insert", "paint", "remove"])

    def test_rows_at_the_end(self):
        for make in (lambda: Picture(bayer(2), 3), lambda: InkPicture(bayer(2), 3, 99)):
            picture = make()
            picture.insert(0, 5, 6)
            before = state(picture)
            for row, number in ((5, 1), (5, 0), (4, 2), (0, 6), (0, 0), (0, -1), (-1, 1), (3, 3), (6, 1)):
                for call in (picture.remove, picture.ink_between):
                    with self.assertRaises(InvalidRows):
                        call(row, number)
                for shade in (6, 17, None):
                    with self.assertRaises(InvalidRows):
                        picture.paint(row, number, shade)
            for row in (-1, 6):
                with self.assertRaises(InvalidRows):
                    picture.insert(row, 0, 17)
            self.assertEqual(state(picture), before)
            picture.insert(5, 1, 7)
            self.assertEqual(picture.bands, [(5, 6), (1, 7)])

    def test_a_call_that_raises_changes_nothing(self):
        for picture in (Picture(bayer(2), 4), InkPicture(bayer(2), 4, 9)):
            picture.insert(0, 4, 6)
            picture.paint(1, 2, 9)
            before = state(picture)
            for value in WRONG:
                for call in (
                    lambda: picture.insert(value, 1, 1), lambda: picture.insert(0, value, 1),
                    lambda: picture.insert(0, 1, value), lambda: picture.remove(value, 1),
                    lambda: picture.remove(0, value), lambda: picture.paint(value, 1, 1),
                    lambda: picture.paint(0, value, 1), lambda: picture.paint(0, 1, value),
                    lambda: picture.ink_between(value, 1), lambda: picture.preview(("remove", 0, value)),
                    lambda: picture.preview(value),
                ):
                    with self.assertRaises(DitherError):
                        call()
            self.assertEqual(state(picture), before)
            picture.undo()
            self.assertEqual(picture.bands, [(4, 6)])
            picture.undo()
            with self.assertRaises(Nothing):
                picture.undo()


if __name__ == "__main__":
    unittest.main()
