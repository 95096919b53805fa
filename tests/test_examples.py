"""The examples of the document, word for word, as one session."""

import doctest
import unittest

OVERVIEW = """
>>> from ditherdepths.screens import Screen, bayer
>>> four = bayer(2)
>>> [four.levels, four.period, four.shades, [four.threshold(x, 1) for x in range(-1, 4)], four.place(9)]
[[(0, 2, 3, 1), (0, 2, 3, 1)], 4, 16, [6, 12, 4, 14, 6], (3, 2)]
"""

TABLE = """
 0  8  2 10
12  4 14  6
 3 11  1  9
15  7 13  5
"""

SCREENS = """
>>> from ditherdepths.screens import first_levels, flipped, mirrored, stacked, transposed
>>> odd = Screen([(1, 0, 3, 2)])
>>> [mirrored(odd).levels, flipped(odd).levels, transposed(odd).levels, stacked(odd, odd).threshold(2, 1)]
[[(0, 1, 2, 3)], [(3, 2, 1, 0)], [(1, 3, 0, 2)], 12]
"""

DOTS = """
>>> from ditherdepths.dots import dot_count, is_dot, nth_dot
>>> [[is_dot(four, 9, x, 0) for x in range(4)], dot_count(four, 9, (0, 0, 4, 4)), dot_count(four, 6, (1, 1, 2, 2)), dot_count(four, 9, (0, 0, 10 ** 30, 1))]
[[True, True, True, False], 9, 2, 750000000000000000000000000000]
>>> [nth_dot(four, 6, (0, 0, 4, 4), number) for number in (0, 1, 2, 5, 6)]
[(0, 0), (2, 0), (1, 1), (3, 3), None]
"""


def run_session(text):
    """What a run of the examples reports, and the names that it leaves."""
    names = {}
    report = []
    example = doctest.DocTestParser().get_doctest(text, names, "session", None, None)
    result = doctest.DocTestRunner(verbose=False).run(example, out=report.append, clear_globs=False)
    return result, "".join(report), example.globs


class ExamplesTest(unittest.TestCase):
    def test_overview_screens_and_dots(self):
        result, report, _ = run_session(OVERVIEW + SCREENS + DOTS)
        self.assertEqual(result.failed, 0, report)
        self.assertEqual(result.attempted, 9)

    def test_the_table_of_point_6(self):
        _, _, names = run_session(OVERVIEW)
        four = names["four"]
        rows = [[int(word) for word in line.split()] for line in TABLE.strip().splitlines()]
        self.assertEqual([[four.threshold(x, y) for x in range(4)] for y in range(4)], rows)


if __name__ == "__main__":
    unittest.main()
