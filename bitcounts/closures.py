"""The vectors that come of a first one by the sides of digit rows, up to combinations.

A side is a tuple of rows of fractions, one for each place of the vectors. Tuples of digits, and tuples of
numbers, are told by their sides: digit rows are numbered in the order of the tuples.
"""

from bitcounts.digit_rows import digit_row, names_told
from bitcounts.rows import applied, row_of, shortest
from math import gcd


def first_place(vector, width):
    for place in range(width):
        if vector[place] != 0:
            return place
    return None


def cleared(vector, row, place):
    """A combination of the vector and the shorter row, with a 0 at this place."""
    common = gcd(vector[place], row[place])
    kept, taken = row[place] // common, vector[place] // common
    head = [kept * number - taken * beside for number, beside in zip(vector, row)]
    return shortest(head + [kept * number for number in vector[len(row):]])


def reduced(vector, echelon):
    for place, row in echelon:
        if vector[place] != 0:
            vector = cleared(vector, row, place)
    return vector


def grown(label, digits, level, lowest):
    """The label with digits put in at its lowest place, or else in front, at the place of the level."""
    if lowest:
        return tuple([2 * number + digit for number, digit in zip(label, digits)])
    return tuple([number + (digit << level) for number, digit in zip(label, digits)])


def label_code(label, places):
    """A number by which labels with so many binary places are ordered as tuples."""
    code = 0
    for number in label:
        code = (code << places) + number
    return code


def next_ones(found, fresh, sides, lowest):
    """What comes of the fresh vectors by each side, in the order of the labels."""
    table = {}
    for at in fresh:
        level, label, vector = found[at]
        for index, side in enumerate(sides):
            follower = grown(label, digit_row(index, len(label)), level, lowest)
            table[label_code(follower, level + 1)] = (follower, at, index, applied(side, vector))
    return [table[code] for code in sorted([int(key) for key in table])]


def share_row(vector, width):
    """How a vector that is 0 is made of those before it: behind the width stand the shares, its own last."""
    return row_of(vector[width:-1], -vector[-1])


def closure(sides, first, lowest, most):
    """The vectors that are no combinations of those before them, and how the others are made of them.

    The labels of vectors are tuples of numbers; the first one's are 0, and each side puts its digits into
    them: at the lowest place (the vectors belong to tuples of numbers), or in front (to parts). The order
    is that of the number of places, then that of the labels. Returned are the list of the vectors, each
    as (places, label, vector), and for each side the tuple of the rows by which what it makes of each of
    these vectors is a combination of them. If there are more than `most` vectors, only so many are returned,
    and no rows.
    """
    width = len(first)
    found = []
    # Each vector is kept with its shares of those found, so that what vanishes tells its combination.
    echelon = []
    rows = {}
    waiting = [(tuple([0 for _ in range(names_told(sides))]), -1, 0, first)]
    level = 0
    while waiting:
        fresh = []
        for label, source, index, vector in waiting:
            rest = reduced([*vector, *[0 for _ in found], 1], echelon)
            place = first_place(rest, width)
            if place is None:
                rows[source, index] = share_row(rest, width)
            elif len(found) == most:
                return found, None
            else:
                rows[source, index] = (((len(found), 1),), 1)
                fresh.append(len(found))
                echelon.append((place, rest))
                found.append((level, label, vector))
        waiting = next_ones(found, fresh, sides, lowest)
        level = level + 1
    spans = [tuple([rows[at, index] for at in range(len(found))]) for index in range(len(sides))]
    return found, spans
