"""What ties the rules of several formulas together: the tuples that are new for them, and the sums that are 0."""

from bitcounts.closures import closure, first_place, reduced
from bitcounts.digit_rows import united
from bitcounts.errors import TooMany
from bitcounts.limits import TOGETHER
from bitcounts.rows import moved, shortest
from bitcounts.rules import widened


class Lines:
    """The lines of several rules, one rule behind the other, as functions of the names of all.

    `heads` has for each rule the place of its first line, None for a rule without lines.
    """

    def __init__(self, names, sides, starts, heads):
        self.variables = names
        self.sides = sides
        self.starts = starts
        self.heads = heads


def lines_together(rules):
    """The lines of all; TooMany is raised if there are more than 64."""
    names = ()
    for rule in rules:
        names = united(names, rule.variables)
    starts = [start for rule in rules for start in rule.starts]
    if len(starts) > TOGETHER:
        raise TooMany()
    sides = [[] for _ in range(1 << len(names))]
    heads = []
    at = 0
    for rule in rules:
        heads.append(at if rule.starts else None)
        for index, side in enumerate(widened(rule, names)):
            sides[index] = [*sides[index], *[moved(row, at) for row in side]]
        at = at + len(rule.starts)
    return Lines(names, sides, starts, heads)


def new_points(lines):
    """The new tuples for the lines, each as (places, tuple, values of the lines)."""
    return closure(lines.sides, lines.starts, True, len(lines.starts))[0]


def head_values(lines, values):
    """The values of the formulas themselves, by those of all lines."""
    return [0 if head is None else values[head] for head in lines.heads]


def least_difference(rule, other):
    """The least tuple at which both differ, as pairs for the names of both; None if they are the same."""
    lines = lines_together([rule, other])
    for _, numbers, values in new_points(lines):
        own, beside = head_values(lines, values)
        if own != beside:
            return tuple(zip(lines.variables, numbers))
    return None


def tuples_together(rules):
    """The new tuples for the formulas, in their order."""
    return tuple([numbers for _, numbers, _ in new_points(lines_together(rules))])


def relation_rows(rules):
    """The rows by which the formulas add up to 0, one for each that is a combination of those before it."""
    lines = lines_together(rules)
    points = [head_values(lines, values) for _, _, values in new_points(lines)]
    width = len(points)
    echelon = []
    found = []
    for at in range(len(rules)):
        shares = [int(place == at) for place in range(len(rules))]
        rest = reduced([*[point[at] for point in points], *shares], echelon)
        place = first_place(rest, width)
        if place is None:
            found.append(upwards(shortest(rest[width:]), at))
        else:
            echelon.append((place, rest))
    return tuple(found)


def upwards(row, at):
    """The row, or its opposite, with a number above 0 at this place."""
    return tuple(row) if row[at] > 0 else tuple([-number for number in row])
