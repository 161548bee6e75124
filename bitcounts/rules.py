"""Least rules of formulas, and how they are worked out for sums and products."""

from bitcounts.checks import check_within
from bitcounts.closures import closure, first_place, reduced
from bitcounts.digit_rows import digit_indexes, own_rows, places_that_matter, rows_of_places, united
from bitcounts.errors import TooMany
from bitcounts.limits import RANK, TOGETHER
from bitcounts.rows import applied, combined, crossed, fractions, moved, row_behind

HIGHEST_POWER = 3
# How many tuples are found before the rank is looked at, and how many times more before it is looked at again.
SOME_POINTS = 40
MORE_POINTS = 3


class Rule:
    """A least rule: its lines are the basic parts of a formula, the formula itself first.

    `variables` are the ascending names on which the values hang, `parts` the basic parts (k, r), `sides`
    has for each digit row a row of fractions for each line, and `starts` the values of the lines at 0.
    """

    def __init__(self, variables, parts, sides, starts):
        self.variables = variables
        self.parts = parts
        self.sides = sides
        self.starts = starts


def constant(number):
    """The least rule of an integer."""
    if number == 0:
        return Rule((), (), ((),), ())
    return Rule((), ((0, ()),), (((((0, 1),), 1),),), (number,))


def variable(name):
    """The least rule of a variable; its lines are m and 2 * m + 1."""
    even = (((0, 2),), 1), (((0, 2), (1, 1)), 1)
    odd = (((1, 1),), 1), (((0, -2), (1, 3)), 1)
    return Rule((name,), ((0, (0,)), (1, (1,))), (even, odd), (0, 1))


def halved(name, times):
    """The least rule of a variable without so many of its lowest digits."""
    # The lines are the variable without so many digits, one fewer and so on, the variable itself, and 1.
    fewer = [(((place + 1, 1),), 1) for place in range(times)]
    one = ((times + 1, 1),), 1
    even = (*fewer, (((times, 2),), 1), one)
    odd = (*fewer, (((times, 2), (times + 1, 1)), 1), one)
    starts = (*[0 for _ in range(times)], 0, 1)
    return minimal_rule((name,), (even, odd), starts, told_first(starts), len(starts))


def is_variable(rule):
    return len(rule.variables) == 1 and same_rules(rule, variable(rule.variables[0]))


def same_rules(rule, other):
    if rule.variables != other.variables or rule.starts != other.starts:
        return False
    return rule.sides == other.sides


def rule_value(rule, numbers):
    """The value at these numbers, one for each variable."""
    lines = rule.starts
    for index in digit_indexes(numbers)[::-1]:
        lines = applied(rule.sides[index], lines)
    return lines[0] if rule.starts else 0


def rule_equations(rule):
    """For each line, for each digit row, the fractions by which it is made of the lines."""
    size = len(rule.starts)
    return tuple([tuple([fractions(side[at], size) for side in rule.sides]) for at in range(size)])


def widened(rule, names):
    """The sides of the rule for the digit rows of these names, among which are its own."""
    return [rule.sides[index] for index in own_rows(rule.variables, names)]


def without_idle(names, parts, sides, starts):
    """The least rule without the names on which nothing hangs; the parts have 0 there."""
    places = places_that_matter(sides)
    kept = rows_of_places(len(names), places)
    labels = [(level, tuple([label[place] for place in places])) for level, label in parts]
    used = tuple([names[place] for place in places])
    return Rule(used, tuple(labels), tuple([sides[index] for index in kept]), starts)


def look_at_parts(told, sides, points):
    """TooMany is raised if more than 16 parts are no combinations of those before them at these points.

    Parts are told by rows, and no part is looked at that comes of one that is a combination of others.
    """
    waiting = [told]
    echelon = []
    at = 0
    while at < len(waiting):
        row = waiting[at]
        at += 1
        rest = reduced([sum([top * point[2][place] for place, top in row[0]]) for point in points], echelon)
        place = first_place(rest, len(points))
        if place is not None:
            echelon.append((place, rest))
            waiting.extend([row_behind(row, side) for side in sides])
        if len(echelon) > RANK:
            raise TooMany()


def points_and_spans(sides, starts, told, most):
    """The tuples at which the lines tell all of their values, as `closure` returns them.

    TooMany is raised if there are more than `most`, or if it is seen that the rank of what is told is greater
    than 16: where there are very many lines, it is looked at before all tuples are found.
    """
    tried = SOME_POINTS
    while tried < most:
        points, spans = closure(sides, starts, True, tried)
        if spans is not None:
            return points, spans
        look_at_parts(told, sides, points)
        tried = MORE_POINTS * tried
    points, spans = closure(sides, starts, True, most)
    if spans is None:
        raise TooMany()
    return points, spans


def minimal_rule(names, sides, starts, told, most):
    """The least rule of the sum of lines by the row `told`.

    The lines have integers as values, `starts` at 0, and those at 2 * x + e are made of those at x by the
    side of e. First come the tuples at which the lines tell all of their values, then the parts by their
    values at these. TooMany is raised if the rank is greater than 16, or if there are more than `most` lines
    that are no combinations of others.
    """
    points, spans = points_and_spans(sides, starts, told, most)
    found, links = closure(spans, [combined(told, point[2]) for point in points], False, RANK)
    if links is None:
        raise TooMany()
    parts = [(level, label) for level, label, _ in found]
    # The first of the points is the tuple of zeros, unless all lines are 0 everywhere.
    return without_idle(names, parts, links, tuple([line[2][0] for line in found]))


def told_first(starts):
    """The row that tells the first line, where there is one."""
    return (((0, 1),), 1) if starts else ((), 1)


def told_both(rule, other, factor):
    """The row that tells the first line of the rule and so many times that of the other one behind it."""
    own = ((0, 1),) if rule.starts else ()
    beside = ((len(rule.starts), factor),) if other.starts else ()
    return own + beside, 1


def side_by_side(rule, other):
    """The names of both, and the sides and values at 0 of the lines of both, one behind the other."""
    names = united(rule.variables, other.variables)
    size = len(rule.starts)
    sides = []
    for side, beside in zip(widened(rule, names), widened(other, names)):
        sides.append((*side, *[moved(row, size) for row in beside]))
    return names, sides, rule.starts + other.starts


def added(rule, other):
    """The least rule of the sum."""
    names, sides, starts = side_by_side(rule, other)
    return minimal_rule(names, sides, starts, told_both(rule, other, 1), len(starts))


def scaled(rule, factor):
    """The least rule of so many times the formula."""
    if factor == 0:
        return constant(0)
    starts = [factor * start for start in rule.starts]
    return Rule(rule.variables, rule.parts, rule.sides, tuple(starts))


def multiplied(rule, other):
    """The least rule of the product."""
    names = united(rule.variables, other.variables)
    size = len(other.starts)
    if len(rule.starts) * size > TOGETHER:
        raise TooMany()
    sides = []
    for side, beside in zip(widened(rule, names), widened(other, names)):
        sides.append(tuple([crossed(row, against, size) for row in side for against in beside]))
    starts = [start * beside for start in rule.starts for beside in other.starts]
    return minimal_rule(names, sides, tuple(starts), told_first(starts), len(starts))


def power(rule, exponent):
    """The least rule of the product of so many of them, multiplied one by one."""
    check_within(exponent, 0, HIGHEST_POWER)
    if exponent == 0:
        return constant(1)
    result = rule
    for _ in range(exponent - 1):
        result = multiplied(result, rule)
    return result
