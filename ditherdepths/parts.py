"""Parts of the plane: lattices of places, and of squares, that are counted without going over them.

A part (step, size, x, y) has the squares of size by size places at all
(x + m * step, y + n * step); parts that stand in one list have no place in common.
"""


def digits_of(screen, shade):
    """The digits of a shade, one a level; the first one is 4 by the shade that has all dots."""
    digits = []
    rest = shade
    for _ in range(screen.depth - 1):
        digits.append(rest & 3)
        rest >>= 2
    digits.append(rest)
    return digits[::-1]


def demand_of(screen, shade, x, y, is_dot):
    """What a place is asked for: a dot, or a blank, of the screen at the place moved by (x, y)."""
    return screen.levels, digits_of(screen, shade), x, y, is_dot


def dot_parts(screen, shade):
    """The parts that have the dots of a shade."""
    return parts_of([demand_of(screen, shade, 0, 0, True)])


def parts_of(demands):
    """The parts that have the places that meet all demands."""
    parts = []
    classes = [(0, 0, demands)]
    size = 1
    bit = 0
    # A demand is undecided only where all digits so far are those of its shade, so in one
    # class of last binary digits: there are never more classes than demands.
    while classes:
        finer = []
        for x, y, undecided in classes:
            for right, down in ((0, 0), (size, 0), (0, size), (size, size)):
                rest = left_undecided(undecided, bit, x + right, y + down)
                if rest is None:
                    continue
                if rest:
                    finer.append((x + right, y + down, rest))
                else:
                    parts.append((2 * size, 1, x + right, y + down))
        classes = finer
        size *= 2
        bit += 1
    return parts


def left_undecided(demands, bit, x, y):
    """The demands that the digits up to a bit do not decide; None if one is not met."""
    rest = []
    for demand in demands:
        met = is_met(demand, bit, x, y)
        if met is None:
            rest.append(demand)
        elif not met:
            return None
    return rest


def is_met(demand, bit, x, y):
    """Whether the digit at a bit, all before it being those of the shade, meets a demand; None if it is undecided."""
    levels, digits, right, down, is_dot = demand
    corner = (x + right >> bit & 1) + 2 * (y + down >> bit & 1)
    digit = levels[bit][corner]
    if digit != digits[bit]:
        return (digit < digits[bit]) == is_dot
    if bit == len(levels) - 1:
        # The threshold is the shade itself, and so not less.
        return not is_dot
    return None


def places_of(window):
    """How many places a window has."""
    return window[2] * window[3]


def count_places(parts, window):
    """How many places of a window the parts have."""
    left, top, width, height = window
    return count_ahead(weighted_rows(parts, left, width), top, height)


def nth_place(parts, window, number):
    """The place of the parts with a number in a window, row by row; None if there is none."""
    left, top, width, height = window
    rows = weighted_rows(parts, left, width)
    if number >= count_ahead(rows, top, height):
        return None
    down = steps_to(rows, top, height, number)
    y = top + down
    columns = [(1, step, size, x) for step, size, x, rest in parts if (y - rest) % step < size]
    across = steps_to(columns, left, width, number - count_ahead(rows, top, down))
    return left + across, y


def weighted_rows(parts, left, width):
    """Of each part how many places a row has that it meets, its step, its size, and its y."""
    return [(count_in_line(left, width, step, size, x), step, size, y) for step, size, x, y in parts]


def count_in_line(start, length, step, size, rest):
    """How many of so many integers from a start on lie less than the size behind a rest and a multiple of the step."""
    return count_below(start + length - rest, step, size) - count_below(start - rest, step, size)


def count_below(number, step, size):
    """How many integers from 0 to the number less 1 have a rest by the step below the size."""
    return number // step * size + min(number % step, size)


def count_ahead(lines, start, length):
    """How many places so many lines from a start on have."""
    return sum([many * count_in_line(start, length, step, size, rest) for many, step, size, rest in lines])


def steps_to(lines, start, length, number):
    """How many lines from a start on stand ahead of the one that has the place with a number."""
    least = 0
    greatest = length - 1
    while least < greatest:
        middle = (least + greatest + 1) // 2
        if count_ahead(lines, start, middle) <= number:
            least = middle
        else:
            greatest = middle - 1
    return least
