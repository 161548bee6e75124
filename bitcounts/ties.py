"""What ties several formulas together: the tuples that are new for them, and the sums that are 0."""

from bitcounts.bounds import most_rank
from bitcounts.closures import first_place, reduced
from bitcounts.digit_rows import united
from bitcounts.errors import TooMany
from bitcounts.limits import NAMES, TOGETHER
from bitcounts.piles import is_nothing, pile_names, pile_of_integer, pile_value, piled
from bitcounts.points import points_of, tuples_of
from bitcounts.rows import moved, shortest
from bitcounts.rules import same_rules, widened
from bitcounts.solving import all_columns
from bitcounts.systems import System

# How many binary digits the numbers have that are tried one by one, for so many names.
TRIED = (0, 2, 2, 1)


class Lines:
    """The lines of several rules, each rule once, as functions of the names of all.

    `heads` has for each of the rules the place of its first line, None for a rule without lines.
    """

    def __init__(self, names, system, heads):
        self.letters = names
        self.system = system
        self.heads = heads


def names_together(rules):
    """The names of all; TooMany is raised if the ranks add up to more than 64."""
    names = ()
    for rule in rules:
        names = united(names, rule.variables)
    if sum([len(rule.starts) for rule in rules]) > TOGETHER:
        raise TooMany()
    return names


def place_of(rule, rules):
    """The place of the first of these rules that is the same, their number if there is none."""
    for place, other in enumerate(rules):
        if same_rules(rule, other):
            return place
    return len(rules)


def lines_together(rules):
    """The lines of all."""
    names = names_together(rules)
    once = []
    ends = []
    heads = []
    sides = [[] for _ in range(1 << len(names))]
    size = 0
    for rule in rules:
        place = place_of(rule, once)
        if place == len(once):
            once.append(rule)
            ends.append(size)
            for index, side in enumerate(widened(rule, names)):
                sides[index] = [*sides[index], *[moved(row, size) for row in side]]
            size = size + len(rule.starts)
        heads.append(ends[place] if rule.starts else None)
    starts = [start for rule in once for start in rule.starts]
    return Lines(names, System("rows", starts, sides, None, None), heads)


def head_values(lines, values):
    """The values of the formulas themselves, by those of all lines."""
    return [0 if head is None else values[head] for head in lines.heads]


def small_tuples(size):
    """The least tuples, in their order."""
    found = [tuple([0 for _ in range(size)])]
    for places in range(1, TRIED[size] + 1):
        mask = (1 << places) - 1
        for code in range(1 << (places * size)):
            numbers = tuple([code >> (places * (size - 1 - at)) & mask for at in range(size)])
            if any([number >> (places - 1) for number in numbers]):
                found.append(numbers)
    return found


def least_small(pile, names):
    """The first of the least tuples of these names at which the pile is not 0, None if it is 0 at all of them."""
    for numbers in small_tuples(len(names)):
        table = {name: 0 for name in pile_names(pile)}
        if pile_value(pile, {**table, **{name: number for name, number in zip(names, numbers)}}) != 0:
            return numbers
    return None


def first_failure(lines, factors):
    """The least tuple at which the multiples of the formulas do not add up to 0, None if they always do."""
    size = len(lines.letters)
    points = points_of(lines.system, size, None)
    for numbers, values in zip(tuples_of(points, size), points.vectors):
        if sum([factor * head for factor, head in zip(factors, head_values(lines, values))]) != 0:
            return numbers
    return None


def least_difference(one, other):
    """The least tuple at which both formulas differ, as pairs for the names of both; None if they are the same."""
    names = united(one.names, other.names)
    numbers = least_small(piled(one._pile, other._pile, -1), names)
    if numbers is None and not same_rules(one.rule, other.rule):
        numbers = first_failure(lines_together([one.rule, other.rule]), (1, -1))
    return None if numbers is None else tuple(zip(names, numbers))


def least_failure(summands):
    """The least tuple at which the multiples, pairs of factor and formula, do not add up to 0; None if they always do.

    It is told as pairs for the names of all.
    """
    names = names_together([one.rule for _, one in summands])
    pile = weighed_sum([one for _, one in summands], [factor for factor, _ in summands])
    numbers = least_small(pile, names)
    if numbers is None and (pile.terms or pile.mixture.parts):
        lines = lines_together([one.rule for _, one in summands])
        numbers = first_failure(lines, [factor for factor, _ in summands])
    return None if numbers is None else tuple(zip(names, numbers))


def tuples_together(rules):
    """The new tuples for the formulas, in their order."""
    lines = lines_together(rules)
    return tuple(tuples_of(points_of(lines.system, len(lines.letters), None), len(lines.letters)))


def relation_rows(heads):
    """The rows by which formulas add up to 0, one for each that is a combination of those before it.

    They are told by the values of the formulas at tuples at which their lines tell all of their values.
    """
    many = len(heads)
    echelon = []
    rows = []
    for at, values in enumerate(heads):
        shares = [int(place == at) for place in range(many)]
        rest = reduced([*values, *shares], echelon)
        place = first_place(rest, len(values))
        if place is None:
            rows.append(upwards(shortest(rest[len(values):]), at))
        else:
            echelon.append((place, rest))
    return tuple(rows)


def upwards(row, at):
    """The row, or its opposite, with a number above 0 at this place."""
    return tuple(row) if row[at] > 0 else tuple([-number for number in row])


def values_of_heads(lines, columns):
    """For each formula its values at the tuples of the columns."""
    return [[0 if head is None else column[head] for column in columns] for head in lines.heads]


def numbers_to_try(names):
    """Numbers for all these names, at some tuples, small and great ones."""
    small = [{name: number for name, number in zip(names, numbers)} for numbers in small_tuples(len(names))]
    return [*small, *[{name: (place + 2) * by for place, name in enumerate(names)} for by in (3, 11, 45)]]


def weighed_sum(formulas, row):
    pile = pile_of_integer(0)
    for factor, one in zip(row, formulas):
        pile = piled(pile, one._pile, factor)
    return pile


def rows_at_some_tuples(formulas):
    """The rows by their values at some tuples, None if it is not seen at once that all add up to 0 everywhere."""
    letters = {name: True for one in formulas for name in pile_names(one._pile)}
    if len(letters) > NAMES or sum([most_rank(one._pile, False) for one in formulas]) > TOGETHER:
        return None
    tried = numbers_to_try(list(letters))
    rows = relation_rows([[pile_value(one._pile, numbers) for numbers in tried] for one in formulas])
    return rows if all([is_nothing(weighed_sum(formulas, row)) for row in rows]) else None


def relations_together(formulas):
    """The rows by which the formulas add up to 0."""
    rows = rows_at_some_tuples(formulas)
    if rows is not None:
        return rows
    lines = lines_together([one.rule for one in formulas])
    return relation_rows(values_of_heads(lines, all_columns(lines.system)))
