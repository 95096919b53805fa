"""Bands: so many rows of a shade each, one band below the other.

A band is a tuple (height, shade, lines), the lines being the dots of the shade
in the width of the picture, as `parts.weighted_rows` has them. They are kept
with the band, for all ink is counted anew whenever rows move.
"""

from ditherdepths.parts import count_ahead, dot_parts, weighted_rows


def band_of(screen, width, height, shade):
    """A band of a picture."""
    return height, shade, weighted_rows(dot_parts(screen, shade), 0, width)


def height_of(bands):
    """How many rows the bands have."""
    return sum([height for height, _, _ in bands])


def ink_of(bands, top):
    """How many dots the bands have, the first one beginning at the row top."""
    total = 0
    y = top
    for height, _, lines in bands:
        total += count_ahead(lines, y, height)
        y += height
    return total


def cut(bands, row):
    """The bands of the rows ahead of one, and those of the rows from it on."""
    ahead = []
    behind = []
    rest = row
    for height, shade, lines in bands:
        part = min(height, rest)
        rest -= part
        if part:
            ahead.append((part, shade, lines))
        if part < height:
            behind.append((height - part, shade, lines))
    return ahead, behind


def joined(bands):
    """The bands with those made one that meet and have the same shade."""
    result = []
    for height, shade, lines in bands:
        if result and result[-1][1] == shade:
            above, _, _ = result.pop()
            result.append((above + height, shade, lines))
        else:
            result.append((height, shade, lines))
    return result
