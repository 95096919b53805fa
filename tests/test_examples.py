"""The examples of the document, word for word, as one session."""

import doctest
import unittest

from ditherdepths.errors import OverInk

OVERVIEW = """
>>> from ditherdepths.screens import Screen, bayer
>>> four = bayer(2)
>>> [four.levels, four.period, four.shades, [four.threshold(x, 1) for x in range(-1, 4)], four.place(9)]
[[(0, 2, 3, 1), (0, 2, 3, 1)], 4, 16, [6, 12, 4, 14, 6], (3, 2)]
"""

TABLE = """
 0  8  2 10
12  4 14  6
 3 11  1  9
15  7 13  5
"""

SCREENS = """
>>> from ditherdepths.screens import first_levels, flipped, mirrored, stacked, transposed
>>> odd = Screen([(1, 0, 3, 2)])
>>> [mirrored(odd).levels, flipped(odd).levels, transposed(odd).levels, stacked(odd, odd).threshold(2, 1)]
[[(0, 1, 2, 3)], [(3, 2, 1, 0)], [(1, 3, 0, 2)], 12]
"""

DOTS = """
>>> from ditherdepths.dots import dot_count, is_dot, nth_dot
>>> [[is_dot(four, 9, x, 0) for x in range(4)], dot_count(four, 9, (0, 0, 4, 4)), dot_count(four, 6, (1, 1, 2, 2)), dot_count(four, 9, (0, 0, 10 ** 30, 1))]
[[True, True, True, False], 9, 2, 750000000000000000000000000000]
>>> [nth_dot(four, 6, (0, 0, 4, 4), number) for number in (0, 1, 2, 5, 6)]
[(0, 0), (2, 0), (1, 1), (3, 3), None]
"""

RANKS = """
>>> from ditherdepths.ranks import least_shade, nth_threshold, shades_with, threshold_range, times_of
>>> [[nth_threshold(four, (1, 1, 2, 2), number) for number in range(4)], threshold_range(four, (0, 1, 4, 1)), times_of(four, (0, 0, 5, 5), 0)]
[[1, 4, 11, 14], (4, 14), 4]
>>> [least_shade(four, (0, 0, 2, 2), 2), shades_with(four, (0, 0, 2, 2), 2), shades_with(four, (0, 0, 5, 1), 1), shades_with(four, (0, 0, 4, 1), 4)]
[5, (5, 8), None, (11, 16)]
"""

SQUARES = """
>>> from ditherdepths.squares import even_part, first_fuller, fuller_count, is_fuller
>>> [even_part(four, 9, 1), [is_fuller(four, 9, 1, x, y) for x, y in [(0, 0), (2, 0), (1, 1), (0, 3)]], fuller_count(four, 9, 1, (0, 0, 4, 4)), first_fuller(four, 9, 1, (2, 0, 9, 9))]
[2, [True, False, False, True], 4, (4, 0)]
"""

RUNS = """
>>> from ditherdepths.runs import longest_across, longest_down, longest_in_column, longest_in_row
>>> [[longest_in_row(four, 9, y, "dot") for y in range(4)], longest_in_row(four, 12, 0, "dot"), longest_in_row(four, 6, 3, "blank"), longest_in_column(four, 9, 1, "dot")]
[[3, 1, 1, 1], None, 3, 3]
>>> [longest_across(four, 9, "dot"), longest_down(four, 6, "blank"), longest_across(four, 4, "blank")]
[3, 3, None]
"""

PATTERNS = """
>>> from ditherdepths.patterns import match_count, match_share, matches
>>> right = [(0, 0, 0, True), (0, 1, 0, False)]
>>> [matches([(four, 9, 0, 0)], right, 2, 0), match_count([(four, 9, 0, 0)], right, (0, 0, 4, 4)), match_share([(four, 9, 0, 0)], right)]
[True, 7, (7, 16)]
>>> both = [(0, 0, 0, True), (1, 0, 0, True)]
>>> [match_share([(four, 9, 0, 0), (four, 9, x, 0)], both) for x in (0, 1, 2)]
[(9, 16), (1, 8), (1, 2)]
"""

EDGES = """
>>> from ditherdepths.edges import edges, islands_less_holes, lone_dots
>>> [(edges(four, shade), lone_dots(four, shade), islands_less_holes(four, shade)) for shade in (6, 9, 16)]
[((12, 12), 6, 6), ((14, 14), 4, 5), ((0, 0), 0, 0)]
"""

INKS = """
>>> from ditherdepths.inks import covered, ink_counts
>>> moved = [(four, 6, 0, 0), (four, 6, 1, 0)]
>>> [ink_counts(moved, (0, 0, 4, 4)), covered(moved, (0, 0, 4, 4)), ink_counts([(four, 9, 0, 0)], (0, 0, 2, 2))]
[[4, 6, 6, 0], 12, [1, 3]]
"""

ALIKE = """
>>> from ditherdepths.alike import first_unlike, moved, same_dots, shift_between, unlike_count
>>> other = Screen([(0, 2, 3, 1), (1, 0, 2, 3)])
>>> [same_dots(four, 8, other, 8), same_dots(four, 8, bayer(1), 2), same_dots(four, 9, other, 9), unlike_count(four, 9, other, 9, (0, 0, 4, 4)), first_unlike(four, 9, other, 9, (0, 0, 4, 4))]
[True, True, False, 2, (1, 0)]
>>> [moved(four, 2, 4).levels, moved(four, 1, 0), shift_between(four, moved(four, 2, 2)), shift_between(four, other)]
[[(0, 2, 3, 1), (2, 0, 1, 3)], None, (2, 2), None]
"""

TOLD = """
>>> from ditherdepths.told import deciding, first_contradiction, shades_counted, shades_for
>>> seen = [(0, 0, True), (1, 0, False), (1, 1, True)]
>>> [shades_for(four, seen), deciding(four, seen), first_contradiction(four, seen), first_contradiction(four, seen + [(2, 0, False)])]
[(5, 8), (2, 1), None, 3]
>>> [shades_counted(four, [((0, 0, 2, 2), 2), ((1, 1, 2, 2), 2)]), shades_counted(four, [((0, 0, 4, 4), 17)])]
[(5, 8), None]
"""

TEXTS = """
>>> from ditherdepths.texts import read_screen, show_dots, show_screen
>>> [show_screen(other), read_screen("0231 0231") == four, show_dots(four, 9, (0, 0, 4, 2))]
['0231 1023', True, '###.\\n.#.#']
"""

PICTURES = """
>>> from ditherdepths.pictures import InkPicture, Picture
>>> picture = Picture(four, 4)
>>> [picture.insert(0, 4, 6), picture.paint(1, 2, 9), picture.bands, picture.ink(), picture.ink_between(3, 1), picture.preview(("remove", 0, 1))]
[None, None, [(1, 6), (2, 9), (1, 6)], 7, 1, 7]
>>> [picture.log(), picture.undo(), picture.bands, picture.height]
[[('insert', 0, 4, 6), ('paint', 1, 2, 9)], None, [(4, 6)], 4]
"""

CONSOLE = """
>>> from ditherdepths.console import Console
>>> console = Console()
>>> [console.execute(command) for command in ["picture 4 0231 0231", "insert 0 4 6", "paint 1 2 9", "show", "ink", "undo", "ink", "dots 9 0 0 4 4", "across 12", "alone 6"]]
['ok', 'ok', 'ok', '1x6 2x9 1x6', '7', 'ok', '6', '9', 'none', '6']
"""


def run_session(text):
    """What a run of the examples reports, and the names that it leaves."""
    names = {}
    report = []
    example = doctest.DocTestParser().get_doctest(text, names, "session", None, None)
    result = doctest.DocTestRunner(verbose=False).run(example, out=report.append, clear_globs=False)
    return result, "".join(report), example.globs


class ExamplesTest(unittest.TestCase):
    def test_the_session(self):
        first = OVERVIEW + SCREENS + DOTS + RANKS + SQUARES + RUNS + PATTERNS
        result, report, names = run_session(first + EDGES + INKS + ALIKE + TOLD + TEXTS + PICTURES + CONSOLE)
        self.assertEqual(result.failed, 0, report)
        self.assertEqual(result.attempted, 44)
        # The last example of the pictures raises.
        with self.assertRaises(OverInk) as caught:
            names["InkPicture"](names["four"], 4, 5).insert(0, 4, 6)
        self.assertEqual(caught.exception.count, 6)

    def test_the_table_of_point_6(self):
        _, _, names = run_session(OVERVIEW)
        four = names["four"]
        rows = [[int(word) for word in line.split()] for line in TABLE.strip().splitlines()]
        self.assertEqual([[four.threshold(x, y) for x in range(4)] for y in range(4)], rows)


if __name__ == "__main__":
    unittest.main()
