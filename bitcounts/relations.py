"""Where formulas part, which of their multiples add up to 0, and the new tuples for them."""

from bitcounts.errors import InvalidValues
from bitcounts.ties import least_difference, lines_together, new_points, relation_rows
from bitcounts.words import formula

MOST_FORMULAS = 6


def checked_rules(formulas):
    """The rules of what is passed for one to six formulas."""
    if not 1 <= len(formulas) <= MOST_FORMULAS:
        raise InvalidValues(None)
    checked = [formula(value) for value in formulas]
    return [one._rule for one in checked]


def parting(f, g):
    """The least tuple at which they differ, as pairs for the names of both; None if they are the same."""
    one, other = formula(f), formula(g)
    return least_difference(one._rule, other._rule)


def relations(*formulas):
    """For each formula that is a combination of those before it, the integers by which they add up to 0."""
    lines = lines_together(checked_rules(formulas))
    return relation_rows(lines, new_points(lines))


def new_tuples(*formulas):
    """The new tuples for these formulas, in their order."""
    lines = lines_together(checked_rules(formulas))
    return tuple([numbers for _, numbers, _ in new_points(lines)])
