"""The least rule of a function, worked out straight from the words of points 9 to 11 by its values alone."""

from fractions import Fraction
from itertools import product


def combination(rows, target):
    """The factors by which the independent rows add up to the target, None if they do not."""
    size = len(rows)
    table = [[Fraction(row[at]) for row in rows] + [Fraction(target[at])] for at in range(len(target))]
    done = 0
    for place in range(size):
        pivot = next(at for at in range(done, len(table)) if table[at][place] != 0)
        table[done], table[pivot] = table[pivot], table[done]
        head = table[done][place]
        table[done] = [number / head for number in table[done]]
        for at in range(len(table)):
            if at != done and table[at][place] != 0:
                by = table[at][place]
                table[at] = [number - by * beside for number, beside in zip(table[at], table[done])]
        done += 1
    if any(table[at][size] != 0 for at in range(done, len(table))):
        return None
    return [table[at][size] for at in range(size)]


def part(function, level, label, points):
    return [function(*[(at << level) + low for at, low in zip(point, label)]) for point in points]


def pairs_of(factors, size):
    told = [(factor.numerator, factor.denominator) for factor in factors]
    return tuple(told + [(0, 1)] * (size - len(told)))


def all_points(size, places):
    """All tuples with so many binary places, that of zeros first."""
    return list(product(range(1 << places), repeat=size))


def least_rule(function, size, points):
    """(basis, equations, firsts), by the values at these points, the tuple of zeros first."""
    digits = list(product((0, 1), repeat=size))
    basis, rows, level, fresh = [], [], 0, True
    while fresh:
        fresh = False
        for label in product(range(1 << level), repeat=size):
            values = part(function, level, label, points)
            if combination(rows, values) is None:
                basis.append((level, label))
                rows.append(values)
                fresh = True
        level += 1
    equations = []
    for level, label in basis:
        line = []
        for row in digits:
            follower = tuple(low + (digit << level) for low, digit in zip(label, row))
            line.append(pairs_of(combination(rows, part(function, level + 1, follower, points)), len(rows)))
        equations.append(tuple(line))
    return tuple(basis), tuple(equations), tuple(row[0] for row in rows)
