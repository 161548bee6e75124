"""What ties the rules of several formulas together: the tuples that are new for them, and the sums that are 0."""

from bitcounts.closures import closure, first_place, reduced
from bitcounts.digit_rows import united
from bitcounts.errors import TooMany
from bitcounts.limits import TOGETHER
from bitcounts.rows import moved, shortest
from bitcounts.rules import same_rules, widened


class Lines:
    """The lines of several rules, one rule behind the other, as functions of the names of all.

    `heads` has for each rule the place of its first line, None for a rule without lines.
    """

    def __init__(self, names, sides, starts, heads):
        self.variables = names
        self.sides = sides
        self.starts = starts
        self.heads = heads


def names_together(rules):
    """The names of all; TooMany is raised if the ranks add up to more than 64."""
    names = ()
    for rule in rules:
        names = united(names, rule.variables)
    if sum([len(rule.starts) for rule in rules]) > TOGETHER:
        raise TooMany()
    return names


def lines_together(rules):
    """The lines of all."""
    names = names_together(rules)
    starts = [start for rule in rules for start in rule.starts]
    sides = [[] for _ in range(1 << len(names))]
    heads = []
    at = 0
    for rule in rules:
        heads.append(at if rule.starts else None)
        for index, side in enumerate(widened(rule, names)):
            sides[index] = [*sides[index], *[moved(row, at) for row in side]]
        at = at + len(rule.starts)
    return Lines(names, sides, starts, heads)


def points_of(lines):
    """The new tuples for the lines, each as (places, tuple, values of the lines), and their rows."""
    return closure(lines.sides, lines.starts, True, len(lines.starts))


def new_points(lines):
    return points_of(lines)[0]


def head_values(lines, values):
    """The values of the formulas themselves, by those of all lines."""
    return [0 if head is None else values[head] for head in lines.heads]


def first_difference(lines, found):
    """The first of the points found for the lines of two formulas at which they differ, None if they are the same."""
    for _, numbers, values in found:
        own, beside = head_values(lines, values)
        if own != beside:
            return numbers
    return None


def least_difference(rule, other):
    """The least tuple at which both differ, as pairs for the names of both; None if they are the same."""
    lines = lines_together([rule, other])
    numbers = first_difference(lines, new_points(lines))
    return None if numbers is None else tuple(zip(lines.variables, numbers))


def relation_rows(lines, found):
    """The rows by which the formulas add up to 0, one for each that is a combination of those before it.

    They are told by the points that are found for the lines.
    """
    points = [head_values(lines, values) for _, _, values in found]
    width, many = len(points), len(lines.heads)
    echelon = []
    rows = []
    for at in range(many):
        shares = [int(place == at) for place in range(many)]
        rest = reduced([*[point[at] for point in points], *shares], echelon)
        place = first_place(rest, width)
        if place is None:
            rows.append(upwards(shortest(rest[width:]), at))
        else:
            echelon.append((place, rest))
    return tuple(rows)


def upwards(row, at):
    """The row, or its opposite, with a number above 0 at this place."""
    return tuple(row) if row[at] > 0 else tuple([-number for number in row])


def place_of(rule, rules):
    """The place of the first of these rules that is the same, their number if there is none."""
    for place, other in enumerate(rules):
        if same_rules(rule, other):
            return place
    return len(rules)


def without_repeats(summands):
    """The pairs of factor and rule, each rule once, without those that come to nothing."""
    rules = []
    factors = []
    for factor, rule in summands:
        place = place_of(rule, rules)
        if place == len(rules):
            rules.append(rule)
            factors.append(0)
        factors[place] = factors[place] + factor
    return [(factor, rule) for factor, rule in zip(factors, rules) if factor != 0]


def least_failure(summands):
    """The least tuple at which the multiples, pairs of factor and rule, do not add up to 0, None if they always do.

    It is told as pairs for the names of all.
    """
    names = names_together([rule for _, rule in summands])
    summands = without_repeats(summands)
    lines = lines_together([rule for _, rule in summands])
    for _, numbers, values in new_points(lines):
        heads = head_values(lines, values)
        if sum([factor * head for (factor, _), head in zip(summands, heads)]) != 0:
            table = {name: number for name, number in zip(lines.variables, numbers)}
            # At a name on which no sum hangs the least number is 0.
            return tuple([(name, table.get(name, 0)) for name in names])
    return None
