"""What points 9 to 13 say, worked out straight from their words by the values of a function alone."""

from fractions import Fraction
from itertools import product


class Span:
    """Rows that are no combinations of those before them, kept with the factors by which they are cleared."""

    def __init__(self):
        self.cleared = []

    def reduce(self, values):
        """What the rows leave of the values, and the factors of the rows that were taken away."""
        values, factors = [Fraction(value) for value in values], [Fraction(0)] * len(self.cleared)
        for place, row, made in self.cleared:
            by = values[place] / row[place]
            if by:
                values = [value - by * beside for value, beside in zip(values, row)]
                factors = [factor + by * share for factor, share in zip(factors, made + [0] * len(factors))]
        return values, factors

    def add(self, values):
        """Whether the values are no combination of the rows; then they are one of them from now on."""
        values, factors = self.reduce(values)
        places = [place for place, value in enumerate(values) if value]
        if places:
            self.cleared.append((places[0], values, [-factor for factor in factors] + [Fraction(1)]))
        return bool(places)

    def combination(self, values):
        """The factors by which the rows add up to the values, None if they do not."""
        values, factors = self.reduce(values)
        return None if any(values) else factors


def part(function, level, label, points):
    return [function(*[(at << level) + low for at, low in zip(point, label)]) for point in points]


def all_points(size, places):
    """All tuples with so many binary places, that of zeros first."""
    return list(product(range(1 << places), repeat=size))


def least_rule(function, size, points):
    """(basis, equations, firsts), by the values at these points, the tuple of zeros first."""
    digits = list(product((0, 1), repeat=size))
    basis, firsts, span, level, fresh = [], [], Span(), 0, True
    while fresh:
        fresh = False
        for label in product(range(1 << level), repeat=size):
            values = part(function, level, label, points)
            if span.add(values):
                basis.append((level, label))
                firsts.append(values[0])
                fresh = True
        level += 1
    equations = []
    for level, label in basis:
        line = []
        for row in digits:
            follower = tuple(low + (digit << level) for low, digit in zip(label, row))
            factors = span.combination(part(function, level + 1, follower, points))
            line.append(tuple((factor.numerator, factor.denominator) for factor in factors))
        equations.append(tuple(line))
    return tuple(basis), tuple(equations), tuple(firsts)


def classes(function, size, points):
    """How many classes (k, r) of a test differ at these points: those that come of others are looked at in turn."""
    found = {tuple(part(function, 0, (0,) * size, points))}
    waiting = [(0, (0,) * size)]
    while waiting:
        level, label = waiting.pop()
        for row in product((0, 1), repeat=size):
            follower = tuple(low + (digit << level) for low, digit in zip(label, row))
            values = tuple(part(function, level + 1, follower, points))
            if values not in found:
                found.add(values)
                waiting.append((level + 1, follower))
    return len(found)


def ordered_points(size, places):
    """All tuples with so many binary places in the order of point 12."""
    return sorted(all_points(size, places), key=lambda point: (max(point, default=0).bit_length(), point))


def least_holding(function, size, places):
    """The least tuple with so many places at which the test holds, None if there is none."""
    return next((point for point in ordered_points(size, places) if function(*point)), None)
