"""The lines of the plain rules of a claim, their values, and the spans that certify what holds for all numbers.

The values of lines are kept as a pair of integers, one for each line, and of what all of them are divided by.
"""

from bitcounts.plain_values import (
    digit_rows_of, digits_of, is_number, is_row, is_tuple_of, names_of_all, rows_of_own,
)
from math import gcd, lcm

MOST_POINTS = 200


class Lines:
    """The lines of plain rules, one rule behind the other, as functions of the names of all.

    `moves` has for each digit row the pair of rows, as pairs of place and factor, and of what all of them are
    divided by. `starts` are the values at 0, and `row` has a factor for each line: by these the lines add up to a
    multiple of what the claim is about, which is to be 0.
    """

    def __init__(self, names, sides, starts, row):
        self.letters = names
        self.moves = sides
        self.starts = starts
        self.row = row


def whole_side(side, by):
    """The rows of the side with whole factors, their places moved on, and what all of them are to be divided by."""
    bottom = 1
    for row in side:
        for fraction in row:
            bottom = lcm(bottom, fraction[1])
    rows = [[(at + by, top * (bottom // below)) for at, (top, below) in enumerate(row) if top != 0] for row in side]
    return rows, bottom


def joined_sides(parts):
    """The rows of several sides, one behind the other."""
    bottom = 1
    for _, below in parts:
        bottom = lcm(bottom, below)
    rows = []
    for side, below in parts:
        by = bottom // below
        rows.extend([[(place, top * by) for place, top in row] for row in side])
    return rows, bottom


def told_together(rules, factors):
    """The row by which the lines add up to a multiple of the sum of what the rules tell times the factors."""
    bottom = 1
    for rule in rules:
        for _, below in rule[3]:
            bottom = lcm(bottom, below)
    row = []
    for rule, factor in zip(rules, factors):
        row.extend([factor * top * (bottom // below) for top, below in rule[3]])
    return row


def lines_of(rules, factors):
    """The lines of all these rules, None if they have more than three names together."""
    names = names_of_all([rule[0] for rule in rules])
    if names is None:
        return None
    parts = [[] for _ in range(1 << len(names))]
    by = 0
    for own, sides, firsts, _ in rules:
        whole = [whole_side(side, by) for side in sides]
        for index, at in enumerate(rows_of_own(own, names)):
            parts[index] = [*parts[index], whole[at]]
        by = by + len(firsts)
    starts = [first for rule in rules for first in rule[2]]
    return Lines(names, [joined_sides(part) for part in parts], (starts, 1), told_together(rules, factors))


def values_behind(side, values):
    """The values at 2 * x + e by those at x, by the side of the digit row e."""
    rows, divided = side
    numbers, bottom = values
    found = [sum([top * numbers[place] for place, top in row]) for row in rows]
    if divided == 1 and bottom == 1:
        return found, 1
    common = divided * bottom
    for number in found:
        common = gcd(common, number)
    return [number // common for number in found], divided * bottom // common


def values_at(lines, numbers):
    """The values of all lines at the tuple."""
    values = lines.starts
    for index in digit_rows_of(numbers)[::-1]:
        values = values_behind(lines.moves[index], values)
    return values


def adds_up(lines, values):
    """What the lines add up to by the row of the claim, but for what all values are divided by."""
    return sum([factor * number for factor, number in zip(lines.row, values[0])])


def place_in_order(numbers):
    """By what tuples of numbers are ordered."""
    return max([int(number) for number in numbers], default=0).bit_length(), numbers


def is_ahead(numbers, other):
    return place_in_order(numbers) < place_in_order(other)


def are_points(value, size):
    """Whether it is a tuple of tuples of so many numbers, in their order."""
    if not isinstance(value, tuple) or len(value) > MOST_POINTS:
        return False
    if not all([is_tuple_of(point, size) and all([is_number(number) for number in point]) for point in value]):
        return False
    places = [place_in_order(point) for point in value]
    return all([places[at] < places[at + 1] for at in range(len(places) - 1)])


def are_rows(value, points, size):
    """Whether it tells for each point and digit row None or a tuple of fractions, one for each point."""
    many = len(points)
    if not is_tuple_of(value, many) or not all([is_tuple_of(rows, 1 << size) for rows in value]):
        return False
    return all([row is None or is_row(row, many) for rows in value for row in rows])


def adds_to(row, vectors, expected):
    """Whether the values at the points, times the fractions of the row, add up to the expected ones."""
    used = [(top, below * bottom, numbers) for (top, below), (numbers, bottom) in zip(row, vectors) if top != 0]
    common = 1
    for _, bottom, _ in used:
        common = lcm(common, bottom)
    shares = [(top * (common // bottom), numbers) for top, bottom, numbers in used]
    found, divided = expected
    if common == divided == 1 and len(shares) == 1 and shares[0][0] == 1:
        return found == shares[0][1]
    for at, number in enumerate(found):
        if sum([share * numbers[at] for share, numbers in shares]) * divided != number * common:
            return False
    return True


def row_is_right(row, points, vectors, behind, expected, last):
    """Whether the row tells the values at the tuple `behind`, which are expected, by those at the points."""
    if row is None:
        return last is not None and not is_ahead(behind, last)
    # The points are in order, so that the last one that is used is looked at.
    used = [point for point, (top, _) in zip(points, row) if top != 0]
    if used and is_ahead(behind, used[-1]):
        return False
    return adds_to(row, vectors, expected)


def begins_right(lines, points, last):
    zeros = tuple([0 for _ in lines.letters])
    if last == zeros or points[:1] == (zeros,):
        return True
    return not any([start != 0 for start in lines.starts[0]])


def values_of_span(lines, span, last):
    """The values of the lines at the points of what is a span up to the tuple, None if it is none.

    With None in the place of the tuple it must be a span for all tuples.
    """
    size = len(lines.letters)
    if not is_tuple_of(span, 2) or not are_points(span[0], size) or not are_rows(span[1], span[0], size):
        return None
    points, rows = span
    if not begins_right(lines, points, last):
        return None
    vectors = [values_at(lines, point) for point in points]
    for point, values, row in zip(points, vectors, rows):
        for index, side in enumerate(lines.moves):
            behind = tuple([2 * number + digit for number, digit in zip(point, digits_of(index, size))])
            if not row_is_right(row[index], points, vectors, behind, values_behind(side, values), last):
                return None
    return vectors
