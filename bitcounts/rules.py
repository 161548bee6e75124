"""Least rules of formulas, and how they are worked out for sums and products."""

from bitcounts.checks import check_within
from bitcounts.closures import closure, digit_index, digit_row
from bitcounts.errors import TooMany, TooManyNames
from bitcounts.limits import NAMES, RANK, TOGETHER
from bitcounts.rows import applied, combined, crossed, fractions, moved

HIGHEST_POWER = 3


class Rule:
    """A least rule: its lines are the basic parts of a formula, the formula itself first.

    `variables` are the ascending names on which the values hang, `parts` the basic parts (k, r), `sides`
    has for each digit row a row of fractions for each line, and `starts` the values of the lines at 0.
    """

    def __init__(self, variables, parts, sides, starts):
        self.variables = variables
        self.parts = parts
        self.sides = sides
        self.starts = starts


def constant(number):
    """The least rule of an integer."""
    if number == 0:
        return Rule((), (), ((),), ())
    return Rule((), ((0, ()),), (((((0, 1),), 1),),), (number,))


def variable(name):
    """The least rule of a variable; its lines are m and 2 * m + 1."""
    even = (((0, 2),), 1), (((0, 2), (1, 1)), 1)
    odd = (((1, 1),), 1), (((0, -2), (1, 3)), 1)
    return Rule((name,), ((0, (0,)), (1, (1,))), (even, odd), (0, 1))


def same_rules(rule, other):
    if rule.variables != other.variables or rule.starts != other.starts:
        return False
    return rule.sides == other.sides


def rule_value(rule, numbers):
    """The value at these numbers, one for each variable."""
    indexes = []
    while any(numbers):
        indexes.append(digit_index([number & 1 for number in numbers]))
        numbers = [number >> 1 for number in numbers]
    lines = rule.starts
    for index in indexes[::-1]:
        lines = applied(rule.sides[index], lines)
    return lines[0] if rule.starts else 0


def rule_equations(rule):
    """For each line, for each digit row, the fractions by which it is made of the lines."""
    size = len(rule.starts)
    return tuple([tuple([fractions(side[at], size) for side in rule.sides]) for at in range(size)])


def united(names, others):
    """The names of both, ascending."""
    both = [*names, *[name for name in others if name not in names]]
    if len(both) > NAMES:
        raise TooManyNames()
    return tuple(sorted([str(name) for name in both]))


def widened(rule, names):
    """The sides of the rule for the digit rows of these names, among which are its own."""
    # Not `names.index`: what operators run calls no method that is the name of an attribute of the package.
    places = [place for name in rule.variables for place, other in enumerate(names) if other == name]
    rows = [digit_row(index, len(names)) for index in range(1 << len(names))]
    return [rule.sides[digit_index([row[place] for place in places])] for row in rows]


def matters(sides, size, place):
    """Whether the sides of digit rows that differ at this place alone differ somewhere."""
    bit = 1 << (size - 1 - place)
    return any([sides[index] != sides[index ^ bit] for index in range(len(sides))])


def without_idle(names, parts, sides, starts):
    """The least rule without the names on which nothing hangs; the parts have 0 there."""
    size = len(names)
    places = [place for place in range(size) if matters(sides, size, place)]
    rows = [digit_row(index, size) for index in range(len(sides))]
    kept = [index for index, row in enumerate(rows) if sum(row) == sum([row[place] for place in places])]
    labels = [(level, tuple([label[place] for place in places])) for level, label in parts]
    used = tuple([names[place] for place in places])
    return Rule(used, tuple(labels), tuple([sides[index] for index in kept]), starts)


def least(names, sides, starts, told):
    """The least rule of the sum of lines by the row `told`.

    The lines have integers as values, `starts` at 0, and those at 2 * x + e are made of those at x by the
    side of e. First come the tuples at which the lines tell all of their values, then the parts by their
    values at these. TooMany is raised if the rank is greater than 16.
    """
    points, spans = closure(sides, starts, True, len(starts))
    firsts = [combined(told, point[2]) for point in points]
    found, links = closure(spans, firsts, False, RANK)
    parts = [(level, label) for level, label, _ in found]
    # The first of the points is the tuple of zeros, unless all lines are 0 everywhere.
    return without_idle(names, parts, links, tuple([line[2][0] for line in found]))


def told_first(starts):
    """The row that tells the first line, where there is one."""
    return (((0, 1),), 1) if starts else ((), 1)


def added(rule, other):
    """The least rule of the sum."""
    names = united(rule.variables, other.variables)
    size = len(rule.starts)
    sides = []
    for side, beside in zip(widened(rule, names), widened(other, names)):
        sides.append((*side, *[moved(row, size) for row in beside]))
    told = told_first(rule.starts)[0] + moved(told_first(other.starts), size)[0]
    return least(names, sides, rule.starts + other.starts, (told, 1))


def scaled(rule, factor):
    """The least rule of so many times the formula."""
    if factor == 0:
        return constant(0)
    starts = [factor * start for start in rule.starts]
    return Rule(rule.variables, rule.parts, rule.sides, tuple(starts))


def multiplied(rule, other):
    """The least rule of the product."""
    names = united(rule.variables, other.variables)
    size = len(other.starts)
    if len(rule.starts) * size > TOGETHER:
        raise TooMany()
    sides = []
    for side, beside in zip(widened(rule, names), widened(other, names)):
        sides.append(tuple([crossed(row, against, size) for row in side for against in beside]))
    starts = [start * beside for start in rule.starts for beside in other.starts]
    return least(names, sides, tuple(starts), told_first(starts))


def power(rule, exponent):
    """The least rule of the product of so many of them, multiplied one by one."""
    check_within(exponent, 0, HIGHEST_POWER)
    if exponent == 0:
        return constant(1)
    result = rule
    for _ in range(exponent - 1):
        result = multiplied(result, rule)
    return result
