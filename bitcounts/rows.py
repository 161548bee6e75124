"""Rows of fractions and rows of integers.

A row of fractions is a pair (pairs, bottom): for each factor that is not 0 the pair of its place and
its top, in ascending places, and the bottom that all of them share, above 0. The tops and the bottom have
no common divisor above 1, so that equal rows of fractions are equal as values.
"""

from math import gcd, lcm


def common_divisor(vector):
    common = 0
    for number in vector:
        common = gcd(common, number)
        if common == 1:
            return 1
    return common


def shortest(vector):
    """The vector divided by the greatest common divisor of its numbers."""
    common = common_divisor(vector)
    if common > 1:
        return [number // common for number in vector]
    return vector


def row_of(tops, bottom):
    """The row of the fractions with these tops, one for each place, and one bottom that is not 0."""
    common = common_divisor([bottom, *tops])
    if bottom < 0:
        common = -common
    pairs = [(place, top // common) for place, top in enumerate(tops) if top != 0]
    return tuple(pairs), bottom // common


def fractions(row, size):
    """The fractions of a row with this many places, as pairs (top, bottom)."""
    pairs, bottom = row
    told = [(0, 1) for _ in range(size)]
    for place, top in pairs:
        common = gcd(top, bottom)
        told[place] = (top // common, bottom // common)
    return tuple(told)


def combined(row, vector):
    """The sum of the multiples of the vector's numbers by the row, which must be an integer."""
    pairs, bottom = row
    return sum([top * vector[place] for place, top in pairs]) // bottom


def applied(side, vector):
    """What the rows of the side make of the vector, as `combined` does."""
    return [sum([top * vector[place] for place, top in pairs]) // bottom for pairs, bottom in side]


def row_behind(row, side):
    """The row that tells of a vector what the row tells of what the side makes of it."""
    common = 1
    for place, _ in row[0]:
        common = lcm(common, side[place][1])
    tops = {}
    for place, top in row[0]:
        pairs, bottom = side[place]
        for beside, factor in pairs:
            tops[beside] = tops.get(beside, 0) + top * factor * (common // bottom)
    places = sorted([int(place) for place in tops])
    divisor = common_divisor([common * row[1], *[tops[place] for place in places]])
    return tuple([(place, tops[place] // divisor) for place in places if tops[place] != 0]), common * row[1] // divisor


def moved(row, by):
    """The row with its places further on."""
    pairs, bottom = row
    return tuple([(place + by, top) for place, top in pairs]), bottom


def crossed(row, other, size):
    """The row of the products of both rows' factors; the other row has this many places."""
    tops = {}
    for place, top in row[0]:
        for beside, factor in other[0]:
            tops[place * size + beside] = top * factor
    bottom = row[1] * other[1]
    common = common_divisor([bottom, *list(tops.values())])
    return tuple([(place, tops[place] // common) for place in tops]), bottom // common


def row_sum(row, other):
    """The row of the sums of both rows' factors."""
    bottom = lcm(row[1], other[1])
    tops = {place: top * (bottom // row[1]) for place, top in row[0]}
    for place, top in other[0]:
        tops[place] = tops.get(place, 0) + top * (bottom // other[1])
    places = sorted([int(place) for place in tops])
    common = common_divisor([bottom, *[tops[place] for place in places]])
    return tuple([(place, tops[place] // common) for place in places if tops[place] != 0]), bottom // common
