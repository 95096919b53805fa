"""Points 1 to 6 and section 14: the console."""

import random
import unittest

from plain import FAR, LONG, WRONG, some_levels

from ditherdepths.console import Console
from ditherdepths.dots import dot_count
from ditherdepths.edges import lone_dots
from ditherdepths.errors import (
    DitherError, InvalidCommand, InvalidNumber, InvalidRows, InvalidShade, InvalidText, InvalidWindow, Nothing,
)
from ditherdepths.pictures import Picture
from ditherdepths.runs import longest_across, longest_down
from ditherdepths.screens import Screen, bayer
from ditherdepths.texts import read_screen, show_screen

WORDS = {
    "insert": 3, "remove": 2, "paint": 3, "undo": 0, "show": 0, "screen": 0, "ink": 0, "dots": 5, "across": 1,
    "down": 1, "alone": 1,
}


def console_of(*commands):
    """A console behind some commands."""
    console = Console()
    for command in commands:
        console.execute(command)
    return console


def answers(console):
    """All that a console tells of its picture, the calls that can be taken back among it."""
    return [console.execute(command) for command in ("show", "screen", "ink", "alone 1", "dots 1 0 0 9 9")]


class AnswersTest(unittest.TestCase):
    def test_at_first(self):
        console = Console()
        self.assertEqual(answers(console), ["none", "0231", "0", "1", "25"])
        # The width is 2.
        console.execute("insert 0 1 4")
        self.assertEqual(console.execute("ink"), "2")
        self.assertEqual(console.execute("show"), "1x4")

    def test_calls_of_the_picture(self):
        chance = random.Random(280)
        levels = some_levels(chance, 3)
        picture = Picture(Screen(levels), 11)
        console = console_of(f"picture 11 {show_screen(Screen(levels))}")
        for _ in range(150):
            row, number = chance.randrange(12), chance.randrange(1, 5)
            shade = chance.choice([0, 1, 30, 64, 65])
            word = chance.choice(["insert", "remove", "paint", "undo"])
            numbers = {"insert": (row, number, shade), "remove": (row, number), "paint": (row, number, shade)}
            arguments = numbers.get(word, ())
            command = " ".join([word, *map(str, arguments)])
            try:
                getattr(picture, word)(*arguments)
            except DitherError as error:
                with self.assertRaises(error.__class__):
                    console.execute(command)
            else:
                self.assertEqual(console.execute(command), "ok")
            bands = " ".join(f"{height}x{shade}" for height, shade in picture.bands)
            self.assertEqual(console.execute("show"), bands or "none")
            self.assertEqual(console.execute("ink"), str(picture.ink()))

    def test_questions(self):
        chance = random.Random(281)
        for depth in (1, 2, 49, 50):
            screen = Screen(some_levels(chance, depth))
            text = show_screen(screen)
            console = console_of(f"picture {FAR} {text}")
            self.assertEqual(console.execute("screen"), text)
            for shade in (0, 1, screen.shades // 4, screen.shades // 2, chance.randrange(screen.shades), screen.shades):
                for left, top, width, height in ((0, 0, 1, 1), (-FAR, FAR, FAR, FAR), (-1, -5, 3, 9)):
                    told = console.execute(f"dots {shade} {left} {top} {width} {height}")
                    self.assertEqual(told, str(dot_count(screen, shade, (left, top, width, height))))
                across, down = longest_across(screen, shade, "dot"), longest_down(screen, shade, "dot")
                self.assertEqual(console.execute(f"across {shade}"), "none" if across is None else str(across))
                self.assertEqual(console.execute(f"down {shade}"), "none" if down is None else str(down))
                self.assertEqual(console.execute(f"alone {shade}"), str(lone_dots(screen, shade)))

    def test_answers_of_runs(self):
        console = console_of("picture 4 0231 0231")
        self.assertEqual([console.execute(f"across {shade}") for shade in (0, 4, 9, 12, 16)], ["0", "1", "3", "none", "none"])
        self.assertEqual([console.execute(f"down {shade}") for shade in (0, 16)], ["0", "none"])
        self.assertEqual([console.execute(f"alone {shade}") for shade in (0, 6, 16)], ["0", "6", "0"])

    def test_a_new_picture(self):
        console = console_of("insert 0 2 1", "picture 3 0123")
        self.assertEqual([console.execute("show"), console.execute("screen")], ["none", "0123"])
        with self.assertRaises(Nothing):
            console.execute("undo")
        console.execute("insert 0 1 4")
        self.assertEqual(console.execute("ink"), "3")
        console.execute(f"picture {FAR} " + " ".join(["0231"] * 50))
        console.execute(f"insert 0 {FAR} {4 ** 50}")
        self.assertEqual([console.execute("ink"), console.execute("show")], [str(10 ** 60), f"{FAR}x{4 ** 50}"])

    def test_consoles_are_apart(self):
        one, other = Console(), Console()
        one.execute("picture 4 0231 0231")
        one.execute("insert 0 4 6")
        self.assertEqual([other.execute("show"), other.execute("screen")], ["none", "0231"])

    def test_answers_are_strings(self):
        console = console_of("picture 4 0231 0231", "insert 0 4 6")
        for command in (
            "picture 4 0231", "insert 0 1 1", "paint 0 1 2", "remove 0 1", "undo", "show", "screen", "ink",
            "dots 1 0 0 1 1", "across 1", "down 4", "alone 1",
        ):
            self.assertIs(type(console.execute(command)), str)


class ErrorsTest(unittest.TestCase):
    def raises(self, error, command, console=None):
        if console is None:
            console = console_of("picture 4 0231 1023", "insert 0 4 6", "paint 1 2 9")
        before = answers(console)
        with self.assertRaises(error) as caught:
            console.execute(command)
        self.assertIs(caught.exception.__class__, error, command)
        self.assertEqual(answers(console), before)
        return caught.exception

    def test_any_value(self):
        console = Console()
        for value in WRONG + [0, LONG, b"show", ["show"], ("show",), [("show",)], {"show": 1}, bayer(1), Console()]:
            self.raises(InvalidCommand, value, console)

    def test_no_such_words(self):
        for command in (
            "", " ", "  ", "\n", "Show", "SHOW", "shows", "sho", "help", "picture", "picture 4", "pictures 4 0231",
            "log", "height", "preview", "limit 4", "insert_rows 0 1 1", "none", "ok", "0", "show show", "\u0000",
            "Picture 4 0231", "picture4 0231", "ink_between 0 1", "execute show", "sh\u00f6w", "#", "insert0 4 6",
        ):
            self.raises(InvalidCommand, command)

    def test_too_few_and_too_many_numbers(self):
        for word, many in WORDS.items():
            for other in range(7):
                if other != many:
                    self.raises(InvalidCommand, " ".join([word] + ["1"] * other))

    def test_empty_words_and_newlines(self):
        for word, many in WORDS.items():
            words = [word] + ["1"] * many
            for at in range(many + 2):
                self.raises(InvalidCommand, " ".join(words[:at] + [""] + words[at:]))
                self.raises(InvalidCommand, "\n".join([" ".join(words[:at]), " ".join(words[at:])]))
                self.raises(InvalidCommand, " ".join(words[:at] + ["\n"] + words[at:]))
            for space in ("\n", "\t", "  ", "\u00a0"):
                self.raises(InvalidCommand, space + " ".join(words))
                self.raises(InvalidCommand, " ".join(words) + space)
                if many:
                    self.raises(InvalidCommand, space.join(words))

    def test_numbers(self):
        wrong = [
            "00", "01", "-0", "-00", "-01", "+1", "+0", "--1", "-", "+", "1.0", "1e2", "0x1", "1_0", "one", "a", "1-",
            "1,0", "\u0661", "\u00b2", "\uff11", "True", "None", "(1)", "'1'", "0" * 100, "1" + "0" * 100,
            "-1" + "0" * 100, "9" * 101, "1" * 5000, "1\n", "\n1", "1\t", "0b1", "1 ", "- 1", "~1",
        ]
        for number in wrong:
            for word, many in WORDS.items():
                for at in range(many):
                    words = ["1"] * many
                    words[at] = number
                    self.raises(InvalidCommand, " ".join([word, *words]))
            if number != "1 ":
                # Behind a number and a space all is TEXT.
                self.raises(InvalidCommand, f"picture {number} 0231")
                self.raises(InvalidCommand, f"picture {number} ")

    def test_numbers_of_100_digits(self):
        for number in ("9" * 100, "-" + "9" * 100, "1" + "0" * 99, "-1" + "0" * 99):
            self.raises(InvalidRows, f"insert {number} 1 1")
            self.raises(InvalidNumber, f"insert 0 {number} 1")
            self.raises(InvalidShade, f"insert 0 1 {number}")
            self.raises(InvalidRows, f"remove {number} 1")
            self.raises(InvalidRows, f"remove 0 {number}")
            self.raises(InvalidRows, f"paint 0 {number} 1")
            self.raises(InvalidNumber, f"picture {number} 0231")
            self.raises(InvalidWindow, f"dots 1 {number} 0 1 1")
            for word in ("across", "down", "alone"):
                self.raises(InvalidShade, f"{word} {number}")

    def test_errors_of_the_calls(self):
        for error, command in [
            (InvalidRows, "insert 5 1 1"), (InvalidRows, "insert -1 1 1"), (InvalidRows, "insert 5 0 17"),
            (InvalidNumber, "insert 4 0 17"), (InvalidNumber, f"insert 0 {FAR + 1} 1"), (InvalidShade, "insert 0 1 17"),
            (InvalidShade, "insert 0 1 -1"), (InvalidRows, "remove 4 1"), (InvalidRows, "remove 0 5"),
            (InvalidRows, "remove 0 0"), (InvalidRows, "paint 4 1 1"), (InvalidRows, "paint 3 2 17"),
            (InvalidShade, "paint 0 4 17"), (InvalidShade, "dots 17 0 0 0 0"), (InvalidShade, "dots -1 0 0 1 1"),
            (InvalidWindow, "dots 16 0 0 0 1"), (InvalidWindow, "dots 16 0 0 1 0"), (InvalidWindow, "dots 1 0 0 -1 1"),
            (InvalidWindow, f"dots 1 {FAR + 1} 0 1 1"), (InvalidWindow, f"dots 1 0 {-FAR - 1} 1 1"),
            (InvalidShade, "across 17"), (InvalidShade, "down -1"), (InvalidShade, "alone 17"),
        ]:
            self.raises(error, command)

    def test_nothing_to_take_back(self):
        self.raises(Nothing, "undo", Console())
        console = console_of("insert 0 1 1", "undo")
        self.raises(Nothing, "undo", console)

    def test_a_refused_command_stays_out_of_what_is_taken_back(self):
        console = console_of("picture 4 0231 0231", "insert 0 4 6", "paint 1 2 9")
        for command in ("remove 4 1", "insert 0 0 0", "picture 4 0232", "picture 0 0231", "undo ", None):
            with self.assertRaises(DitherError):
                console.execute(command)
        self.assertEqual(console.execute("show"), "1x6 2x9 1x6")
        console.execute("undo")
        self.assertEqual(console.execute("show"), "4x6")


class PictureTest(unittest.TestCase):
    def raises_text(self, command, part):
        console = console_of("insert 0 2 1")
        with self.assertRaises(InvalidText) as caught:
            console.execute(command)
        self.assertEqual(caught.exception.part, part)
        self.assertEqual([console.execute("show"), console.execute("screen")], ["2x1", "0231"])

    def test_text_is_all_that_is_behind(self):
        for command, part in [
            ("picture 4 ", 0), ("picture 4  ", 0), ("picture 4  0231", 0), ("picture 4 0231 ", 1),
            ("picture 4 0231  1023", 1), ("picture 4 \n", 0), ("picture 4 0231\n", 0), ("picture 4 0231\n1023", 0),
            ("picture 4 0231 \n1023", 1), ("picture 4 0231 show", 1), ("picture 4 0232", 0), ("picture 4 4", 0),
            ("picture 4 " + " ".join(["0231"] * 51), 50), ("picture 4 " + " ".join(["0231"] * 60) + " ", 60),
        ]:
            self.raises_text(command, part)

    def test_no_text_needs_its_space(self):
        for command in ("picture 4", "picture", "picture ", "picture  4 0231", " picture 4 0231", "picture 0231 "[:-1]):
            with self.assertRaises(InvalidCommand):
                Console().execute(command)
        for command in ("picture\n4 0231", "picture 4\n0231", "picture 4\n 0231", "\npicture 4 0231"):
            with self.assertRaises(InvalidCommand):
                Console().execute(command)

    def test_errors_of_the_text_go_first(self):
        for width in (0, -1, FAR + 1):
            self.raises_text(f"picture {width} ", 0)
            self.raises_text(f"picture {width} 0231 0", 1)
            with self.assertRaises(InvalidNumber):
                Console().execute(f"picture {width} 0231")

    def test_widths(self):
        for width in (1, 2, 4, FAR):
            console = console_of(f"picture {width} 0231", "insert 0 1 4")
            self.assertEqual(console.execute("ink"), str(width))

    def test_the_screen_of_a_text(self):
        text = " ".join(["1032"] * 50)
        console = console_of(f"picture 1 {text}")
        self.assertEqual(console.execute("screen"), text)
        self.assertEqual(read_screen(console.execute("screen")), Screen([(1, 0, 3, 2)] * 50))


if __name__ == "__main__":
    unittest.main()
